/-
  The contract of the document's own alone.
-/
import Derived.Test.YtfniphaehggcgaaQ17
import Derived.Test.YtfniphaehggcgaaQ19
namespace Go.Proofs.Ytfniphaehggcgaa
set_option maxRecDepth 100000
open Go.RowKit Go.Deep

theorem flat_one12 {α β : Type} (f : α → β) (l : List α) : (l.flatMap fun s => [f s]) = l.map f := by
  induction l with
  | nil => rfl
  | cons x l ih => simp [ih]

/-- What is by itself, of the first. -/
def aloneTo (half : Bool) (L : List Sz) (T : List Int) (k : Nat) : List (List Int) := (((L.take k).filter Z.idle).filter (Z.one half T)).map fun s => [s.gen]
theorem aloneTo_skip {half : Bool} {L : List Sz} {T : List Int} {k : Nat} {s : Sz} (h : L[k]? = some s) (hs : (Z.idle s && Z.one half T s) = false) : aloneTo half L T (k + 1) = aloneTo half L T k := by
  unfold aloneTo
  rw [take_snoc12 h, List.filter_append, List.filter_append]
  rcases Bool.and_eq_false_iff.1 hs with h1 | h1
  · simp [h1]
  · cases h2 : Z.idle s <;> simp [h1, h2]
theorem aloneTo_more {half : Bool} {L : List Sz} {T : List Int} {k : Nat} {s : Sz} (h : L[k]? = some s) (hs : (Z.idle s && Z.one half T s) = true) : aloneTo half L T (k + 1) = aloneTo half L T k ++ [[s.gen]] := by
  obtain ⟨h1, h2⟩ := Bool.and_eq_true_iff.1 hs
  unfold aloneTo
  rw [take_snoc12 h, List.filter_append, List.filter_append]
  simp [h1, h2]
theorem aloneTo_len (half : Bool) (L : List Sz) (T : List Int) (k : Nat) : (aloneTo half L T k).length ≤ L.length := by
  unfold aloneTo
  rw [List.length_map]
  exact Nat.le_trans (List.length_filter_le _ _) (Nat.le_trans (List.length_filter_le _ _) (by simp; omega))

theorem LiO.free {B : Nat} {w : World} {v tk : Value} {ls : List (List Int)} (h : LiO B w v tk ls) : LiO B w v (.slice none 0 0) ls := by
  obtain ⟨us, h1, h2, -⟩ := h
  exact ⟨us, h1, h2, fun s hs g hg e => by cases e⟩
/-- One more list, that lies apart. -/
theorem LiO.more {B : Nat} {w w' : World} {v v' : Value} {us : List Pts} {ls : List (List Int)} {s : Pts} {l : List Int} (h1 : w.ownsRow B 47 1 v us.length (us.map sv)) (h2 : Gg Il 3 w us ls)
    (hs : Il w (sv s) l) (ht : Ty12 3 w (sv s)) (ho : w'.ownsRow B 47 1 v' (us ++ [s]).length ((us ++ [s]).map sv)) (hg : w.grownBy w' v.ownBlock) : LiO B w' v' (.slice none 0 0) (ls ++ [l]) :=
  LiO.snoc (tk := .slice none 0 0) h1 h2 (fun s hs g hg e => by cases e) hs ht (fun g hg e => by cases e) ho hg
theorem one_int12 (w : World) (x : Int) : Il (w.alloc (.cells #[.int .i64 x] 3)) (sv (some ⟨w.heap.size, 0, none⟩, 1, 1)) [x] ∧ Ty12 3 (w.alloc (.cells #[.int .i64 x] 3)) (sv (some ⟨w.heap.size, 0, none⟩, 1, 1)) := by
  have hlit := World.ownsRow_lit (base := 0) (size := 1) (e := 3) w #[.int .i64 x] 1 (Nat.zero_le _) (by unfold maxLen; omega) rfl
  refine ⟨Gl.owned (f := Value.int .i64) (l := [x]) hlit, fun g hg => ?_⟩
  simp only [sv, Value.ownBlock, Option.some.injEq] at hg
  subst hg
  exact ⟨_, _, heap_alloc_new w _⟩

set_option maxRecDepth 100000 in
set_option maxHeartbeats 8000000 in
theorem ralone_any (half : Bool) (v u tk : Value) (B : Nat) (L : List Sz) (p : List (List Int)) (w : World) (h : Zl w v L) (hp : LiO B w u tk p) (hF : Z.Fit L) (hpl : p.length ≤ 1000) :
    Calls Try.prog 32 #[v, u, .bool half] w fun e w' => ∃ v', e = .returned v' ∧ Tl w' v' (p ++ ((L.filter Z.idle).filter (Z.one half p.flatten)).map fun s => [s.gen]) ∧ Below w.heap.size w w' := by
  obtain ⟨i0, hi, hz0, hz1, hz2⟩ := info_parts Try.infoLI
  have HP := hide hp.tl
  obtain ⟨us0, OU0, GU0, -⟩ := hp
  have hu0 : us0.length = p.length := GU0.1
  have hul0 : us0.length ≤ 1000 := by omega
  have KU := Kl.owned (f := fun s : Pts => [sv s]) (k := 1) (l := us0) (fun _ => rfl) (by decide) (by rw [flat_one12]; exact OU0)
  obtain ⟨pa, pc, rfl, -⟩ := zl_spot OU0
  obtain ⟨a, cap, rfl, h1, h2, hna, ho⟩ := h.open
  have HF := hide hF.2
  have hll := hF.1
  have HGU0 := hide GU0
  have HKU := hide KU
  have HRES : Hid ((p ++ ((L.filter Z.idle).filter (Z.one half p.flatten)).map fun s => [s.gen]) = p ++ aloneTo half L p.flatten L.length) := by
    show _ = _
    rw [aloneTo, List.take_length]
  have HAL := hide (aloneTo_len half L p.flatten)
  clear h GU0 OU0 KU hF hu0
  go_enter Try.func32, Try.ntmps32
  go_wp2_with (at_builtin; refine append_allF (f := fun s : Pts => [sv s]) rfl _ _ 27 rfl Try.underlying27 hi hz0 hz1 hz2 rfl (by decide) (fun _ => rfl) (fun y u hu => by simp at hu; subst hu; rfl) (B := w.heap.size) (pre := []) (zs := us0) rfl rfl (unhide HKU) (World.ownsRow_nil _ _ _ _) (Nat.le_refl _) (by simp; omega) (by decide) ?_; intro v2 w2 O2 g2)
  rw [flat_one12, List.nil_append] at O2
  have B2 : Below w.heap.size w w2 := (Below.refl _ _).grown g2 (Nat.le_refl _) (fun j hj => by cases hj)
  have L2 : Hid (LiO w.heap.size w2 v2 (.slice none 0 0) p) := ⟨us0, O2, Gg.grown (R := Il) (fun h hg hne => Gl.keep12 h hg hne) (unhide HGU0) g2 (fun s hs g hg e => by cases e), fun s hs g hg e => by cases e⟩
  clear O2 g2 HGU0 HKU
  go_loopw [7, 8] (fun pv kv wr => ∃ (k : Nat) (E : List (List Int)), k ≤ L.length ∧ kv = .int .i64 k ∧ E.length ≤ 1020 ∧ Hid (E = p ++ aloneTo half L p.flatten k) ∧ Hid (LiO w.heap.size wr pv (.slice none 0 0) E) ∧ Below w.heap.size w wr) (fun _ kv _ => L.length - (intOf kv).toNat)
  case atStart => exact ⟨0, p, Nat.zero_le _, rfl, by omega, by (show _ = _; simp [aloneTo]), L2, B2⟩
  case round =>
    clear L2 B2
    obtain ⟨k, E, hk, rfl, hEl, HE, HLI, hbel⟩ := hrel
    by_cases hlt : k < L.length
    · obtain ⟨b, off, rfl, hb, hc⟩ := ho (by omega)
      obtain ⟨s, hx⟩ : ∃ x, L[k]? = some x := ⟨L[k], List.getElem?_eq_getElem hlt⟩
      obtain ⟨e0, e1, e2, e3⟩ := hc k s hx
      have c0 := (hbel.cell (p := ⟨b, off + k * 4, none⟩) hb).trans e0
      have c1 := (hbel.cell (p := ⟨b, off + k * 4 + 1, none⟩) hb).trans e1
      have c2 := (hbel.cell (p := ⟨b, off + k * 4 + 2, none⟩) hb).trans e2
      have c3 := (hbel.cell (p := ⟨b, off + k * 4 + 3, none⟩) hb).trans e3
      obtain ⟨⟨o1, o2⟩, ⟨o3, o4⟩, o5, o6⟩ := unhide HF s (List.mem_of_getElem? hx)
      have hw : IntKind.i64.wrap (2 * s.dead) = 2 * s.dead := by rw [IntKind.wrap_i64]; omega
      obtain ⟨m, hm⟩ : ∃ m, decide (s.gen ∈ p.flatten) = m := ⟨_, rfl⟩
      have CH := rHas_any _ p s.gen wr ((unhide HP).below hbel) m (by rw [← hm]; simp)
      obtain ⟨cr, hcr⟩ : ∃ cr, Z.crit half s = cr := ⟨_, rfl⟩
      have HSK := hide (fun hs => aloneTo_skip (half := half) (T := p.flatten) hx hs)
      have HMO := hide (fun hs => aloneTo_more (half := half) (T := p.flatten) hx hs)
      have HONE : Hid ((Z.idle s && Z.one half p.flatten s) = (!s.busy && (cr && !m))) := by show _ = _; rw [Z.idle, Z.one, hcr, hm]
      have hlen := unhide HAL (k + 1)
      have HLEN := hide hlen
      obtain ⟨g, d, x, bu⟩ := s
      simp only at c0 c1 c2 c3 o3 o4 o5 o6 hw CH hcr
      clear hc ho hx e0 e1 e2 e3 hm hlen
      cases half with
      | true =>
        have qd : decide (d < 2 * x) = cr := by rw [← hcr, Z.crit, if_pos rfl]; refine decide_eq_decide.2 ?_; show d < 2 * x ↔ d - x < x; omega
        clear hcr
        cases bu with
        | true =>
          have HEE : Hid (E = p ++ aloneTo true L p.flatten (k + 1)) := by
            show _ = _
            rw [unhide HSK (by rw [unhide HONE]; simp), ← unhide HE]
          go_wp2_with fail
          refine CH.mono ?_
          rintro e w7 ⟨rfl, rfl⟩
          clear CH
          go_upto_region 8 with fail
          go_quiet (fail)
          obtain ⟨W, hW⟩ : ∃ W, W = w7.drewN nq := ⟨_, rfl⟩
          have hQ : Below w7.heap.size w7 W := by rw [hW]; exact below_dr' (Below.refl _ _) nq
          rw [← hW]
          have c0 := cell_keep c0 hQ
          have c3 := cell_keep c3 hQ
          have hbel := below_trans' hbel hQ
          have HLI := hide ((unhide HLI).below hQ)
          clear hW hQ c1 c2
          go_wp2
          go_roundw
          case rel => exact ⟨k + 1, E, by omega, by go_num, hEl, HEE, HLI, hbel⟩
          case measure => simp [intOf]; omega
        | false =>
          cases m with
          | true =>
            cases cr with
            | true =>
              have HEE : Hid (E = p ++ aloneTo true L p.flatten (k + 1)) := by
                show _ = _
                rw [unhide HSK (by rw [unhide HONE]; rfl), ← unhide HE]
              go_wp2_with fail
              refine CH.mono ?_
              rintro e w7 ⟨rfl, rfl⟩
              clear CH
              go_upto_region 8 with fail
              go_quiet (fail)
              obtain ⟨W, hW⟩ : ∃ W, W = w7.drewN nq := ⟨_, rfl⟩
              have hQ : Below w7.heap.size w7 W := by rw [hW]; exact below_dr' (Below.refl _ _) nq
              rw [← hW]
              have c0 := cell_keep c0 hQ
              have c3 := cell_keep c3 hQ
              have hbel := below_trans' hbel hQ
              have HLI := hide ((unhide HLI).below hQ)
              clear hW hQ c1 c2
              go_wp2
              go_roundw
              case rel => exact ⟨k + 1, E, by omega, by go_num, hEl, HEE, HLI, hbel⟩
              case measure => simp [intOf]; omega
            | false =>
              have HEE : Hid (E = p ++ aloneTo true L p.flatten (k + 1)) := by
                show _ = _
                rw [unhide HSK (by rw [unhide HONE]; rfl), ← unhide HE]
              go_wp2_with fail
              refine CH.mono ?_
              rintro e w7 ⟨rfl, rfl⟩
              clear CH
              go_upto_region 8 with fail
              go_quiet (fail)
              obtain ⟨W, hW⟩ : ∃ W, W = w7.drewN nq := ⟨_, rfl⟩
              have hQ : Below w7.heap.size w7 W := by rw [hW]; exact below_dr' (Below.refl _ _) nq
              rw [← hW]
              have c0 := cell_keep c0 hQ
              have c3 := cell_keep c3 hQ
              have hbel := below_trans' hbel hQ
              have HLI := hide ((unhide HLI).below hQ)
              clear hW hQ c1 c2
              go_wp2
              go_roundw
              case rel => exact ⟨k + 1, E, by omega, by go_num, hEl, HEE, HLI, hbel⟩
              case measure => simp [intOf]; omega
          | false =>
            cases cr with
            | false =>
              have HEE : Hid (E = p ++ aloneTo true L p.flatten (k + 1)) := by
                show _ = _
                rw [unhide HSK (by rw [unhide HONE]; rfl), ← unhide HE]
              go_wp2_with fail
              refine CH.mono ?_
              rintro e w7 ⟨rfl, rfl⟩
              clear CH
              go_upto_region 8 with fail
              go_quiet (fail)
              obtain ⟨W, hW⟩ : ∃ W, W = w7.drewN nq := ⟨_, rfl⟩
              have hQ : Below w7.heap.size w7 W := by rw [hW]; exact below_dr' (Below.refl _ _) nq
              rw [← hW]
              have c0 := cell_keep c0 hQ
              have c3 := cell_keep c3 hQ
              have hbel := below_trans' hbel hQ
              have HLI := hide ((unhide HLI).below hQ)
              clear hW hQ c1 c2
              go_wp2
              go_roundw
              case rel => exact ⟨k + 1, E, by omega, by go_num, hEl, HEE, HLI, hbel⟩
              case measure => simp [intOf]; omega
            | true =>
              have HEE : Hid (E ++ [[g]] = p ++ aloneTo true L p.flatten (k + 1)) := by
                show _ = _
                rw [unhide HMO (by rw [unhide HONE]; rfl), unhide HE, List.append_assoc]
              have hl9 : (E ++ [[g]]).length ≤ 1020 := by have h1 := congrArg List.length (unhide HEE); have h2 := unhide HLEN; rw [h1, List.length_append]; omega
              go_wp2_with fail
              refine CH.mono ?_
              rintro e w7 ⟨rfl, rfl⟩
              clear CH
              go_upto_region 8 with fail
              go_quiet (fail)
              obtain ⟨W, hW⟩ : ∃ W, W = w7.drewN nq := ⟨_, rfl⟩
              have hQ : Below w7.heap.size w7 W := by rw [hW]; exact below_dr' (Below.refl _ _) nq
              rw [← hW]
              have c0 := cell_keep c0 hQ
              have c3 := cell_keep c3 hQ
              have hbel := below_trans' hbel hQ
              have HLI := hide ((unhide HLI).below hQ)
              clear hW hQ c1 c2
              have BL := below_alloc W (.cells #[.int .i64 g] 3)
              obtain ⟨us, OU, GU, -⟩ := (unhide HLI).below BL
              have hul : us.length ≤ 1100 := by have := GU.1; omega
              obtain ⟨IL, TL⟩ := one_int12 W g
              have BB8 := below_trans' hbel BL
              have hs8 : w.heap.size ≤ W.heap.size + 1 := by have := hbel.size; omega
              have HGU := hide GU
              have HIL := hide IL
              have HTL := hide TL
              have HOU := hide OU
              clear HLI BL IL TL GU hbel
              go_wp2_with (first | (at_builtin; refine append_oneL (f := sv) rfl _ _ 27 rfl Try.underlying27 hi hz0 hz1 hz2 rfl sv_one12 (pre := us) (some ⟨W.heap.size, 0, none⟩, 1, 1) rfl rfl (by simp) OU (by simp; omega) (by omega) (by omega) ?_; intro g7 c7 w9 O7 g7' l7) | fail)
              have B9 := BB8.grown g7' (by simp; omega) (fun j hj => ((unhide HOU).lt j hj).1)
              have LI9 := hide (LiO.more (s := (some ⟨W.heap.size, 0, none⟩, 1, 1)) (unhide HOU) (unhide HGU) (unhide HIL) (unhide HTL) O7 g7')
              clear O7 g7' l7 OU BB8
              go_roundw
              case rel => exact ⟨k + 1, E ++ [[g]], by omega, by go_num, hl9, HEE, LI9, B9⟩
              case measure => simp [intOf]; omega
      | false =>
        have qd : decide (0 < x) = cr := by rw [← hcr, Z.crit, if_neg (by simp)]
        clear hcr
        cases bu with
        | true =>
          have HEE : Hid (E = p ++ aloneTo false L p.flatten (k + 1)) := by
            show _ = _
            rw [unhide HSK (by rw [unhide HONE]; simp), ← unhide HE]
          go_wp2_with fail
          refine CH.mono ?_
          rintro e w7 ⟨rfl, rfl⟩
          clear CH
          go_wp2
          go_roundw
          case rel => exact ⟨k + 1, E, by omega, by go_num, hEl, HEE, HLI, hbel⟩
          case measure => simp [intOf]; omega
        | false =>
          cases m with
          | true =>
            cases cr with
            | true =>
              have HEE : Hid (E = p ++ aloneTo false L p.flatten (k + 1)) := by
                show _ = _
                rw [unhide HSK (by rw [unhide HONE]; rfl), ← unhide HE]
              go_wp2_with fail
              refine CH.mono ?_
              rintro e w7 ⟨rfl, rfl⟩
              clear CH
              go_wp2
              go_roundw
              case rel => exact ⟨k + 1, E, by omega, by go_num, hEl, HEE, HLI, hbel⟩
              case measure => simp [intOf]; omega
            | false =>
              have HEE : Hid (E = p ++ aloneTo false L p.flatten (k + 1)) := by
                show _ = _
                rw [unhide HSK (by rw [unhide HONE]; rfl), ← unhide HE]
              go_wp2_with fail
              refine CH.mono ?_
              rintro e w7 ⟨rfl, rfl⟩
              clear CH
              go_wp2
              go_roundw
              case rel => exact ⟨k + 1, E, by omega, by go_num, hEl, HEE, HLI, hbel⟩
              case measure => simp [intOf]; omega
          | false =>
            cases cr with
            | false =>
              have HEE : Hid (E = p ++ aloneTo false L p.flatten (k + 1)) := by
                show _ = _
                rw [unhide HSK (by rw [unhide HONE]; rfl), ← unhide HE]
              go_wp2_with fail
              refine CH.mono ?_
              rintro e w7 ⟨rfl, rfl⟩
              clear CH
              go_wp2
              go_roundw
              case rel => exact ⟨k + 1, E, by omega, by go_num, hEl, HEE, HLI, hbel⟩
              case measure => simp [intOf]; omega
            | true =>
              have HEE : Hid (E ++ [[g]] = p ++ aloneTo false L p.flatten (k + 1)) := by
                show _ = _
                rw [unhide HMO (by rw [unhide HONE]; rfl), unhide HE, List.append_assoc]
              have hl9 : (E ++ [[g]]).length ≤ 1020 := by have h1 := congrArg List.length (unhide HEE); have h2 := unhide HLEN; rw [h1, List.length_append]; omega
              go_wp2_with fail
              refine CH.mono ?_
              rintro e w7 ⟨rfl, rfl⟩
              clear CH
              have BL := below_alloc w7 (.cells #[.int .i64 g] 3)
              obtain ⟨us, OU, GU, -⟩ := (unhide HLI).below BL
              have hul : us.length ≤ 1100 := by have := GU.1; omega
              obtain ⟨IL, TL⟩ := one_int12 w7 g
              have BB8 := below_trans' hbel BL
              have hs8 : w.heap.size ≤ w7.heap.size + 1 := by have := hbel.size; omega
              have HGU := hide GU
              have HIL := hide IL
              have HTL := hide TL
              have HOU := hide OU
              clear HLI BL IL TL GU hbel
              go_wp2_with (first | (at_builtin; refine append_oneL (f := sv) rfl _ _ 27 rfl Try.underlying27 hi hz0 hz1 hz2 rfl sv_one12 (pre := us) (some ⟨w7.heap.size, 0, none⟩, 1, 1) rfl rfl (by simp) OU (by simp; omega) (by omega) (by omega) ?_; intro g7 c7 w9 O7 g7' l7) | fail)
              have B9 := BB8.grown g7' (by simp; omega) (fun j hj => ((unhide HOU).lt j hj).1)
              have LI9 := hide (LiO.more (s := (some ⟨w7.heap.size, 0, none⟩, 1, 1)) (unhide HOU) (unhide HGU) (unhide HIL) (unhide HTL) O7 g7')
              clear O7 g7' l7 OU BB8
              go_roundw
              case rel => exact ⟨k + 1, E ++ [[g]], by omega, by go_num, hl9, HEE, LI9, B9⟩
              case measure => simp [intOf]; omega
    · have hE := unhide HE
      have hkL : k = L.length := by omega
      rw [hkL, ← unhide HRES] at hE
      have HE2 := hide hE
      clear hE hkL
      go_wp2
      go_ret
      rw [← unhide HE2]
      exact ⟨_, rfl, (unhide HLI).tl, hbel⟩
end Go.Proofs.Ytfniphaehggcgaa
