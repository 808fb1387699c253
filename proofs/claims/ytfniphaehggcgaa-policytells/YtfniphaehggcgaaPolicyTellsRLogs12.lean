/-
  The contract of the document's own Logs.
-/
import Derived.Test.YtfniphaehggcgaaPolicyTellsRTier12
namespace Go.Proofs.Ytfniphaehggcgaa
set_option maxRecDepth 100000
open Go.RowKit Go.Deep

namespace Z
theorem runs_skip {per : Nat} {most : Int} {l : List Sz} (h2 : 2 ≤ per) (h : ¬ (per ≤ l.length ∧ alk per (l.take per) = true ∧ lives (l.take per) ≤ most)) : runs per most l = runs per most (l.drop 1) := by
  by_cases hl : per ≤ l.length
  · exact runs_no h2 hl fun hh => h ⟨hl, hh⟩
  · rw [runs_few (by omega), runs_few (by rw [List.length_drop]; omega)]
theorem alk_iff {per m : Nat} {l : List Sz} {s0 : Sz} (h : l[0]? = some s0) (hm : 1 ≤ m) : alk per (l.take m) = true ↔ ∀ x ∈ l.take m, x.busy = false ∧ lv per x = lv per s0 := by
  cases l with
  | nil => cases h
  | cons y r =>
    obtain rfl : y = s0 := by simpa using h
    obtain ⟨m, rfl⟩ : ∃ j, m = j + 1 := ⟨m - 1, by omega⟩
    rw [List.take_succ_cons, alk, List.all_eq_true]
    constructor
    · intro h9 x hx
      have := h9 x hx
      rw [Bool.and_eq_true, decide_eq_true_eq] at this
      exact ⟨by simpa using this.1, this.2⟩
    · intro h9 x hx
      obtain ⟨k1, k2⟩ := h9 x hx
      rw [Bool.and_eq_true, decide_eq_true_eq]
      exact ⟨by simp [k1], k2⟩
end Z

set_option maxRecDepth 100000 in
set_option maxHeartbeats 8000000 in
theorem rlogs_any (v : Value) (L : List Sz) (per most : Int) (w : World) (h : Zl w v L) (r mb : Bool) (hr : r = true ↔ Z.Ready L) (hm : mb = true ↔ Z.Pol per most) :
    Calls Try.prog 14 #[v, .agg #[.int .i64 per, .int .i64 most]] w fun e w' => ∃ v', e = .returned v' ∧ Tl w' v' (if (r && mb) = true then Z.prop true L (Z.runs per.toNat most L) else []) ∧ Below w.heap.size w w' := by
  obtain ⟨i0, hi, hz0, hz1, hz2⟩ := info_parts Try.infoLI
  obtain ⟨j0, hj, hj0, hj1, hj2⟩ := info_parts Try.infoI10
  have HV := hide h
  have CM := fun w1 (hb : Below w.heap.size w w1) => rmay_any v L w1 (h.below hb) r hr
  have CP := fun w1 => rpolicy_any per most w1 mb hm
  obtain ⟨a, cap, rfl, hcl, -, -, ho⟩ := h.open
  obtain ⟨W, hW⟩ : ∃ W, W = w.alloc (.cells #[.int .i64 per, .int .i64 most] 24) := ⟨_, rfl⟩
  have BW : Below w.heap.size w W := by rw [hW]; exact below_alloc _ _
  have b0 : W.cell? ⟨w.heap.size, 0, none⟩ = some (.int .i64 per) := by rw [hW]; exact box_cell (heap_alloc_new w _) rfl
  have b1 : W.cell? ⟨w.heap.size, 1, none⟩ = some (.int .i64 most) := by rw [hW]; exact box_cell (heap_alloc_new w _) rfl
  have HW := hide hW
  obtain ⟨R, hR⟩ : ∃ R, (if (r && mb) = true then Z.prop true L (Z.runs per.toNat most L) else []) = R := ⟨_, rfl⟩
  rw [hR]
  have HRR := hide hR
  have HR := hide hr
  have HM := hide hm
  have HO := hide ho
  clear hW h hr hm ho hR
  go_enter Try.func14, Try.ntmps14
  go_wp2_with fail
  rw [← unhide HW]
  refine (CM _ BW).mono ?_
  rintro e w1 ⟨rfl, B1⟩
  have b0 := cell_keep b0 B1
  have b1 := cell_keep b1 B1
  have BB1 := below_trans' BW B1
  clear CM B1 BW
  go_wp2_with fail
  refine (CP _).mono ?_
  rintro e w2 ⟨rfl, B2⟩
  have b0 := cell_keep b0 B2
  have b1 := cell_keep b1 B2
  have BB2 := below_trans' BB1 B2
  clear CP B2 BB1
  cases r with
  | false =>
    have hR0 : R = [] := by rw [← unhide HRR]; exact if_neg (by simp)
    subst hR0
    go_wp2
    go_ret
    exact ⟨_, rfl, (LiO.nil 0 _ (.slice none 0 0)).tl, BB2⟩
  | true =>
    cases mb with
    | false =>
      have hR0 : R = [] := by rw [← unhide HRR]; exact if_neg (by simp)
      subst hR0
      go_wp2
      go_ret
      exact ⟨_, rfl, (LiO.nil 0 _ (.slice none 0 0)).tl, BB2⟩
    | true =>
      have hRdy := (unhide HR).1 rfl
      have hPol := (unhide HM).1 rfl
      have hFit := hRdy.fit
      obtain ⟨p, rfl⟩ : ∃ p : Nat, per = (p : Int) := ⟨per.toNat, by have := hPol.1.1; omega⟩
      obtain ⟨T, hT⟩ : ∃ T, Z.runs p most L = T := ⟨_, rfl⟩
      have hll := hFit.1
      have hTl : T.length ≤ 16 := by rw [← hT]; have := Z.runs_len p most _ L (Nat.le_refl _); omega
      have HRES : Hid (R = T.map Z.gens ++ ((L.filter Z.idle).filter (Z.one true (T.map Z.gens).flatten)).map fun s => [s.gen]) := by
        show _ = _
        rw [← unhide HRR, if_pos (by simp), Int.toNat_natCast, hT, Z.prop]
      obtain ⟨⟨hp2, hp8⟩, hm1, hm64⟩ := hPol
      have HF := hide hFit
      have HT0 : Hid (([] : List (List Sz)) ++ Z.runs p most (L.drop 0) = T) := by show _ = _; rw [List.drop_zero, List.nil_append]; exact hT
      clear hRdy hFit hT HRR
      go_wp2
      go_loopw [7, 8] (fun pv kv wr => ∃ (i : Nat) (D : List (List Sz)), i ≤ L.length ∧ kv = .int .i64 i ∧ Hid (D ++ Z.runs p most (L.drop i) = T) ∧ Hid (LiO w2.heap.size wr pv (.slice none 0 0) (D.map Z.gens)) ∧ Below w2.heap.size w2 wr) (fun _ kv _ => L.length - (intOf kv).toNat)
      case atStart => exact ⟨0, [], by omega, rfl, HT0, LiO.nil _ _ _, Below.refl _ _⟩
      case round =>
        obtain ⟨i, D, hi9, rfl, HD, HLI, hbel⟩ := hrel
        by_cases hlt : i < L.length
        · obtain ⟨b, off, rfl, hb, hc⟩ := unhide HO (by omega)
          obtain ⟨s0, hx0⟩ : ∃ x, L[i]? = some x := ⟨L[i], List.getElem?_eq_getElem hlt⟩
          obtain ⟨d0, d1, d2, d3⟩ := hc i s0 hx0
          have CL0 := fun w1 => rlevel_any s0 (p : Int) w1 ((unhide HF).2 s0 (List.mem_of_getElem? hx0)) ⟨by omega, by omega⟩
          obtain ⟨q0, hq0⟩ : ∃ q, Z.lv p s0 = q := ⟨_, rfl⟩
          rw [Int.toNat_natCast, hq0] at CL0
          unfold zv at CL0
          obtain ⟨X, hX⟩ : ∃ X, L.drop i = X := ⟨_, rfl⟩
          have hX0 : X[0]? = some s0 := by rw [← hX, List.getElem?_drop]; exact hx0
          have hXl : X.length + i ≤ L.length ∧ L.length ≤ X.length + i := by rw [← hX, List.length_drop]; omega
          have hAK : ∀ m, 1 ≤ m → (Z.alk p (X.take m) = true ↔ ∀ x ∈ X.take m, x.busy = false ∧ Z.lv p x = q0) := fun m h9 => by rw [← hq0]; exact Z.alk_iff hX0 h9
          have hds := unhide HD
          rw [hX] at hds
          have HDS := hide hds
          have HSK : Hid (¬ (p ≤ X.length ∧ Z.alk p (X.take p) = true ∧ Z.lives (X.take p) ≤ most) → D ++ Z.runs p most (L.drop (i + 1)) = T) := fun h9 => by
            rw [← hds, Z.runs_skip (l := X) (by omega) h9, ← hX, List.drop_drop]
          have HYE : Hid (p ≤ X.length → Z.alk p (X.take p) = true → Z.lives (X.take p) ≤ most → D ++ [X.take p] ++ Z.runs p most (L.drop (i + p)) = T) := fun h7 h8 h9 => by
            rw [← hds, Z.runs_yes (l := X) (by omega) h7 h8 h9, ← hX, List.drop_drop, List.append_assoc]
            rfl
          have HAK := hide hAK
          have HXX := hide hX
          have HC := hide hc
          have HTN : Hid ((X.take 0) = ([] : List Sz)) := rfl
          have hwp : IntKind.i64.wrap ((i : Int) + (p : Int)) = (i : Int) + (p : Int) := by rw [IntKind.wrap_i64]; omega
          have HDl : Hid (D.length ≤ 16) := by
            have := congrArg List.length hds
            rw [List.length_append] at this
            show _ ≤ _
            omega
          clear hx0 hq0 hX hX0 hAK hds HD hc
          go_wp2
          go_loopw [9, 10, 11] (fun sv' nv kv wr => ∃ (k j : Nat) (N : List Int) (n : Int), k ≤ L.length ∧ kv = .int .i64 k ∧ nv = .int .i64 n ∧ (i + j ≤ k ∧ k ≤ i + j) ∧ j ≤ p ∧ (N.length ≤ j ∧ j ≤ N.length) ∧ (0 ≤ n ∧ n ≤ N.length * 64) ∧ Hid (N = Z.gens (X.take j)) ∧ Hid (n = Z.lives (X.take j)) ∧ Hid (∀ x ∈ X.take j, x.busy = false ∧ Z.lv p x = q0) ∧ Hid (LiO w2.heap.size wr u7 sv' (D.map Z.gens)) ∧ Hid (wr.ownsRow w2.heap.size 3 1 sv' N.length (N.map (Value.int .i64))) ∧ Below w2.heap.size w2 wr) (fun _ _ kv _ => L.length - (intOf kv).toNat)
          case atStart => exact ⟨i, 0, [], 0, by omega, rfl, rfl, by omega, by omega, by simp, by simp, by (show _ = _; rw [unhide HTN]; rfl), by (show _ = _; rw [unhide HTN]; rfl), by (show ∀ _, _; rw [unhide HTN]; intro x hx; cases hx), HLI, World.ownsRow_nil _ _ _ _, hbel⟩
          case round =>
            clear HLI hbel HTN
            obtain ⟨k, j, N, n, hk, rfl, rfl, ⟨hkj1, hkj2⟩, hjp, ⟨hN1, hN2⟩, ⟨hn0, hn1⟩, HN, HLv, HAl, HLI, HOW, hbel⟩ := hrel
            have hbw := below_trans' BB2 hbel
            have t0 := cell_keep b0 hbel
            have fp := fun w' (hb : Below wr.heap.size wr w') => cell_keep t0 hb
            by_cases hA : k < L.length
            · have hA' : decide ((k : Int) < (L.length : Int)) = true := by simp; omega
              by_cases hB : j < p
              · have hB' : decide ((k : Int) < (i : Int) + (p : Int)) = true := by simp; omega
                have hkj : i + j = k := by omega
                obtain ⟨s, hx⟩ : ∃ x, L[k]? = some x := ⟨L[k], List.getElem?_eq_getElem hA⟩
                have hXj : X[j]? = some s := by rw [← unhide HXX, List.getElem?_drop, hkj]; exact hx
                obtain ⟨e0, e1, e2, e3⟩ := unhide HC k s hx
                have hOk := (unhide HF).2 s (List.mem_of_getElem? hx)
                have CL := fun w1 => rlevel_any s (p : Int) w1 hOk ⟨by omega, by omega⟩
                obtain ⟨q, hq⟩ : ∃ q, Z.lv p s = q := ⟨_, rfl⟩
                rw [Int.toNat_natCast, hq] at CL
                unfold zv at CL
                have HBC : Hid (∀ w', Below w.heap.size w w' → w'.cell? ⟨b, off + k * 4, none⟩ = some (.int .i64 s.gen) ∧ w'.cell? ⟨b, off + k * 4 + 1, none⟩ = some (.int .i64 s.docs) ∧ w'.cell? ⟨b, off + k * 4 + 2, none⟩ = some (.int .i64 s.dead)) := fun w' hb' => ⟨(hb'.cell (p := ⟨b, off + k * 4, none⟩) hb).trans e0, (hb'.cell (p := ⟨b, off + k * 4 + 1, none⟩) hb).trans e1, (hb'.cell (p := ⟨b, off + k * 4 + 2, none⟩) hb).trans e2⟩
                have f0 := fun w' (hb' : Below wr.heap.size wr w') => cell_keep ((hbw.cell (p := ⟨b, off + k * 4, none⟩) hb).trans e0) hb'
                have f1 := fun w' (hb' : Below wr.heap.size wr w') => cell_keep ((hbw.cell (p := ⟨b, off + k * 4 + 1, none⟩) hb).trans e1) hb'
                have f2 := fun w' (hb' : Below wr.heap.size wr w') => cell_keep ((hbw.cell (p := ⟨b, off + k * 4 + 2, none⟩) hb).trans e2) hb'
                have f3 := fun w' (hb' : Below wr.heap.size wr w') => cell_keep ((hbw.cell (p := ⟨b, off + k * 4 + 3, none⟩) hb).trans e3) hb'
                have z0 := fun w' (hb' : Below wr.heap.size wr w') => cell_keep ((hbw.cell (p := ⟨b, off + i * 4, none⟩) hb).trans d0) hb'
                have z1 := fun w' (hb' : Below wr.heap.size wr w') => cell_keep ((hbw.cell (p := ⟨b, off + i * 4 + 1, none⟩) hb).trans d1) hb'
                have z2 := fun w' (hb' : Below wr.heap.size wr w') => cell_keep ((hbw.cell (p := ⟨b, off + i * 4 + 2, none⟩) hb).trans d2) hb'
                have z3 := fun w' (hb' : Below wr.heap.size wr w') => cell_keep ((hbw.cell (p := ⟨b, off + i * 4 + 3, none⟩) hb).trans d3) hb'
                have hin : s ∈ X.take p := List.mem_iff_getElem?.2 ⟨j, by rw [List.getElem?_take, if_pos hB]; exact hXj⟩
                obtain ⟨-, ⟨o3, o4⟩, o5, o6⟩ := hOk
                have hw1 : IntKind.i64.wrap (n + s.docs) = n + s.docs := by rw [IntKind.wrap_i64]; omega
                have hw2 : IntKind.i64.wrap (n + s.docs - s.dead) = n + s.docs - s.dead := by rw [IntKind.wrap_i64]; omega
                have HGS : Hid (N ++ [s.gen] = Z.gens (X.take (j + 1))) := by show _ = _; rw [take_snoc12 hXj, Z.gens_snoc, ← unhide HN]
                have HLS : Hid (n + s.docs - s.dead = Z.lives (X.take (j + 1))) := by show _ = _; rw [Z.lives_take hXj, ← unhide HLv, Z.live]; omega
                have HTS := hide (take_snoc12 hXj)
                have HIN := hide hin
                have HQ := hide hq
                clear hx hXj e0 e1 e2 e3 hin hq hkj t0 hbw
                by_cases hbu : s.busy = true
                · have hno : ¬ (p ≤ X.length ∧ Z.alk p (X.take p) = true ∧ Z.lives (X.take p) ≤ most) := fun hh => by
                    have := ((unhide HAK p (by omega)).1 hh.2.1 s (unhide HIN)).1
                    rw [hbu] at this
                    cases this
                  rw [hbu] at f3
                  clear hbu CL
                  go_upto_region 11 with fail
                  refine region_below (by kernel_rfl) (by kernel_rfl) ?_
                  repeat
                    (first
                      | go_big_quiet_skip
                      | (go_big_quiet_want; go_big_quiet_op
                         first
                           | go_big_quiet_on
                           | (apply Exists.intro
                              refine ⟨fun w' hw' => ?_, ?_⟩
                              · first
                               | exact rfl
                               | (rw [fp w' hw']; exact ⟨rfl, rfl⟩)
                               | (rw [f3 w' hw']; exact ⟨rfl, rfl⟩)
                              go_big_quiet_on)))
                  refine wpQuiet_nil ?_
                  intro w9 hb9
                  clear f0 f1 f2 f3 z0 z1 z2 z3 fp
                  have LI9 := (unhide HLI).below hb9
                  have OW9 := own_below (unhide HOW) hb9
                  have BB9 := below_trans' hbel hb9
                  have t0 := cell_keep b0 BB9
                  have t1 := cell_keep b1 BB9
                  have q2 : ((N.length : Int) == (p : Int)) = false := beq_eq_false_iff_ne.2 (by omega)
                  have HC3 := hide (unhide HSK hno)
                  obtain ⟨a9, c9, rfl, -, -, hsp⟩ := zl_spot OW9
                  have LI8 := hide LI9.free
                  clear hno OW9 LI9
                  go_wp2
                  go_roundw
                  case rel => exact ⟨i + 1, D, by omega, by go_num, HC3, LI8, BB9⟩
                  case measure => simp [intOf]; omega
                · have hbu2 : s.busy = false := by simpa using hbu
                  have HBU := hide hbu2
                  rw [hbu2] at f3 CL
                  clear hbu hbu2
                  by_cases hqt : q = q0
                  · have q1 : ((q : Int) == (q0 : Int)) = true := by simp [hqt]
                    have HAl2 : Hid (∀ x ∈ X.take (j + 1), x.busy = false ∧ Z.lv p x = q0) := by
                      show ∀ _, _
                      rw [unhide HTS]
                      intro x hx
                      rcases List.mem_append.1 hx with hx | hx
                      · exact unhide HAl x hx
                      · rw [List.mem_singleton] at hx
                        subst hx
                        exact ⟨unhide HBU, by rw [unhide HQ, hqt]⟩
                    clear hqt
                    go_upto_region 11 with fail
                    refine region_below (by kernel_rfl) (by kernel_rfl) ?_
                    repeat
                      (first
                        | go_big_quiet_skip
                        | (go_big_quiet_want; go_big_quiet_op
                           first
                             | go_big_quiet_on
                             | (apply Exists.intro
                                refine ⟨fun w' hw' => ?_, ?_⟩
                                · first
                                 | exact rfl
                                 | (rw [fp w' hw']; exact ⟨rfl, rfl⟩)
                                 | (rw [f3 w' hw']; exact ⟨rfl, rfl⟩)
                                 | (rw [f0 w' hw']; dsimp only [Result.andThen]; rw [f1 w' hw']; dsimp only [Result.andThen]; rw [f2 w' hw']; dsimp only [Result.andThen]; rw [f3 w' hw']; exact ⟨rfl, rfl⟩)
                                 | (rw [z0 w' hw']; dsimp only [Result.andThen]; rw [z1 w' hw']; dsimp only [Result.andThen]; rw [z2 w' hw']; dsimp only [Result.andThen]; rw [z3 w' hw']; exact ⟨rfl, rfl⟩)
                                 | (go_at_call_of 31 (Value.agg #[Value.int IntKind.i64 s.gen, Value.int IntKind.i64 s.docs, Value.int IntKind.i64 s.dead, Value.bool false]); exact (CL _).mono fun e w'' ⟨h1, h2⟩ => ⟨h1, below_trans' hw' h2⟩)
                                 | (go_at_call 31; exact (CL0 _).mono fun e w'' ⟨h1, h2⟩ => ⟨h1, below_trans' hw' h2⟩)
                                go_big_quiet_on)))
                    refine wpQuiet_nil ?_
                    intro w9 hb9
                    have LI9 := hide ((unhide HLI).below hb9)
                    have OW9 := own_below (unhide HOW) hb9
                    have BB9 := below_trans' hbel hb9
                    have hbs := BB9.size
                    have c0 := f0 _ hb9
                    have HOW9 := hide OW9
                    clear f0 f1 f2 f3 z0 z1 z2 z3 fp CL hb9 HLI HOW hbel
                    go_wp2_with (at_builtin; refine append_oneL (f := Value.int .i64) rfl _ _ 47 rfl Try.underlying47 hj hj0 hj1 hj2 rfl (fun _ => rfl) (pre := N) s.gen rfl rfl rfl OW9 (by omega) (by omega) (by omega) ?_; intro g7 c7 w7 O7 g7' l7; have B7 := BB9.grown g7' hbs (fun j hj => (OW9.lt j hj).1); obtain ⟨x0, x1, x2⟩ := unhide HBC _ (below_trans' BB2 B7))
                    have LI7 := LiO.taken9 (tk' := .slice (some ⟨g7, 0, none⟩) (N.length + 1) c7) (unhide LI9) (unhide HOW9) g7' (fun k hk => by
                      simp only [Value.ownBlock, Option.some.injEq] at hk
                      subst hk
                      exact l7)
                    have e9 : N.length + 1 = (N ++ [s.gen]).length := by simp
                    rw [e9] at LI7 O7 ⊢
                    obtain ⟨N2, hN2⟩ : ∃ N2, N ++ [s.gen] = N2 := ⟨_, rfl⟩
                    have hN2l : N2.length = N.length + 1 := by rw [← hN2]; simp
                    rw [hN2] at LI7 O7 HGS ⊢
                    have hn2 : 0 ≤ n + s.docs - s.dead ∧ n + s.docs - s.dead ≤ N2.length * 64 := by omega
                    have hNj : N2.length ≤ j + 1 ∧ j + 1 ≤ N2.length := by omega
                    have HLI7 := hide LI7
                    have HO7 := hide O7
                    clear g7' l7 LI9 OW9 BB9 hbs HOW9 c0 e9 hN2 O7 LI7 hN2l
                    go_quiet (fail)
                    have hQ : Below w7.heap.size w7 (w7.drewN nq) := below_dr' (Below.refl _ _) nq
                    have B5 := below_trans' B7 hQ
                    have LI5 := hide ((unhide HLI7).below hQ)
                    have OW5 := hide (own_below (unhide HO7) hQ)
                    clear hQ HLI7 HO7 B7 x0 x1 x2
                    go_wp2
                    go_roundw
                    case rel => exact ⟨k + 1, j + 1, N2, n + s.docs - s.dead, by omega, by go_num, by go_num, by omega, by omega, hNj, hn2, HGS, HLS, HAl2, LI5, OW5, B5⟩
                    case measure => simp [intOf]; omega
                  · have q1 : ((q : Int) == (q0 : Int)) = false := beq_eq_false_iff_ne.2 (by omega)
                    have hno : ¬ (p ≤ X.length ∧ Z.alk p (X.take p) = true ∧ Z.lives (X.take p) ≤ most) := fun hh => by
                      have := ((unhide HAK p (by omega)).1 hh.2.1 s (unhide HIN)).2
                      rw [unhide HQ] at this
                      exact hqt this
                    go_upto_region 11 with fail
                    refine region_below (by kernel_rfl) (by kernel_rfl) ?_
                    repeat
                      (first
                        | go_big_quiet_skip
                        | (go_big_quiet_want; go_big_quiet_op
                           first
                             | go_big_quiet_on
                             | (apply Exists.intro
                                refine ⟨fun w' hw' => ?_, ?_⟩
                                · first
                                 | exact rfl
                                 | (rw [fp w' hw']; exact ⟨rfl, rfl⟩)
                                 | (rw [f3 w' hw']; exact ⟨rfl, rfl⟩)
                                 | (rw [f0 w' hw']; dsimp only [Result.andThen]; rw [f1 w' hw']; dsimp only [Result.andThen]; rw [f2 w' hw']; dsimp only [Result.andThen]; rw [f3 w' hw']; exact ⟨rfl, rfl⟩)
                                 | (rw [z0 w' hw']; dsimp only [Result.andThen]; rw [z1 w' hw']; dsimp only [Result.andThen]; rw [z2 w' hw']; dsimp only [Result.andThen]; rw [z3 w' hw']; exact ⟨rfl, rfl⟩)
                                 | (go_at_call_of 31 (Value.agg #[Value.int IntKind.i64 s.gen, Value.int IntKind.i64 s.docs, Value.int IntKind.i64 s.dead, Value.bool false]); exact (CL _).mono fun e w'' ⟨h1, h2⟩ => ⟨h1, below_trans' hw' h2⟩)
                                 | (go_at_call 31; exact (CL0 _).mono fun e w'' ⟨h1, h2⟩ => ⟨h1, below_trans' hw' h2⟩)
                                go_big_quiet_on)))
                    refine wpQuiet_nil ?_
                    intro w9 hb9
                    clear f0 f1 f2 f3 z0 z1 z2 z3 fp CL hqt
                    have LI9 := (unhide HLI).below hb9
                    have OW9 := own_below (unhide HOW) hb9
                    have BB9 := below_trans' hbel hb9
                    have t0 := cell_keep b0 BB9
                    have t1 := cell_keep b1 BB9
                    have q2 : ((N.length : Int) == (p : Int)) = false := beq_eq_false_iff_ne.2 (by omega)
                    have HC3 := hide (unhide HSK hno)
                    obtain ⟨a9, c9, rfl, -, -, hsp⟩ := zl_spot OW9
                    have LI8 := hide LI9.free
                    clear hno OW9 LI9
                    go_wp2
                    go_roundw
                    case rel => exact ⟨i + 1, D, by omega, by go_num, HC3, LI8, BB9⟩
                    case measure => simp [intOf]; omega
              · have hB' : decide ((k : Int) < (i : Int) + (p : Int)) = false := by simp; omega
                go_upto_region 11 with fail
                refine region_below (by kernel_rfl) (by kernel_rfl) ?_
                repeat
                  (first
                    | go_big_quiet_skip
                    | (go_big_quiet_want; go_big_quiet_op
                       first
                         | go_big_quiet_on
                         | (apply Exists.intro
                            refine ⟨fun w' hw' => ?_, ?_⟩
                            · first
                             | exact rfl
                             | (rw [fp w' hw']; exact ⟨rfl, rfl⟩)
                            go_big_quiet_on)))
                refine wpQuiet_nil ?_
                intro w9 hb9
                clear fp t0
                have LI9 := hide ((unhide HLI).below hb9)
                have OW9 := unhide HOW
                have OW9 := own_below OW9 hb9
                have BB9 := below_trans' hbel hb9
                have t0 := cell_keep b0 BB9
                have t1 := cell_keep b1 BB9
                have hbs := BB9.size
                have q2 : ((N.length : Int) == (p : Int)) = true := by
                  have : N.length = p := by omega
                  simp [this]
                obtain rfl : j = p := by omega
                have hall := (unhide HAK j (by omega)).2 (unhide HAl)
                have hXp : j ≤ X.length := by omega
                by_cases hle : n ≤ most
                · have hle' : decide (n ≤ most) = true := by simpa using hle
                  have HC3 := hide (unhide HYE hXp hall (by rw [← unhide HLv]; exact hle))
                  obtain ⟨a9, c9, rfl, -, -, hsp⟩ := zl_spot OW9
                  obtain ⟨us, OU, GU, -⟩ := unhide LI9
                  have hul : us.length ≤ 1000 := by
                    have h1 := GU.1
                    have h2 := unhide HDl
                    rw [List.length_map] at h1
                    omega
                  have HGU := hide GU
                  have HOU := hide OU
                  have I5 : Hid (Il w9 (sv (a9, N.length, c9)) N) := Gl.owned OW9
                  have T5 : Hid (Ty12 3 w9 (sv (a9, N.length, c9))) := Ty12.own OW9
                  clear GU LI9 OW9 hle hall
                  go_wp2_with (at_builtin; refine append_oneL (f := sv) rfl _ _ 27 rfl Try.underlying27 hi hz0 hz1 hz2 rfl sv_one12 (pre := us) (a9, N.length, c9) rfl rfl rfl OU (by omega) (by omega) (by omega) ?_; intro g8 c8 w8 O8 g8' l8; have B8 := BB9.grown g8' hbs (fun j hj => ((unhide HOU).lt j hj).1); have t9 := cell_keep b0 B8)
                  have LI8 := LiO.more (s := (a9, N.length, c9)) (unhide HOU) (unhide HGU) (unhide I5) (unhide T5) O8 g8'
                  rw [show D.map Z.gens ++ [N] = (D ++ [X.take j]).map Z.gens from by rw [unhide HN]; simp] at LI8
                  have HLI8 := hide LI8
                  clear O8 g8' l8 OU LI8 BB9
                  go_roundw
                  case rel => exact ⟨i + j, D ++ [X.take j], by omega, by go_num, HC3, HLI8, B8⟩
                  case measure => simp [intOf]; omega
                · have hle' : decide (n ≤ most) = false := by simpa using hle
                  have HC3 := hide (unhide HSK (fun hh => hle (by rw [unhide HLv]; exact hh.2.2)))
                  obtain ⟨a9, c9, rfl, -, -, hsp⟩ := zl_spot OW9
                  have LI8 := hide (unhide LI9).free
                  clear hle hall OW9 LI9
                  go_wp2
                  go_roundw
                  case rel => exact ⟨i + 1, D, by omega, by go_num, HC3, LI8, BB9⟩
                  case measure => simp [intOf]; omega
            · have hA' : decide ((k : Int) < (L.length : Int)) = false := by simp; omega
              by_cases hB : j < p
              · have hno : ¬ (p ≤ X.length ∧ Z.alk p (X.take p) = true ∧ Z.lives (X.take p) ≤ most) := fun hh => by
                  have := hh.1
                  omega
                go_upto_region 11 with fail
                refine region_below (by kernel_rfl) (by kernel_rfl) ?_
                repeat
                  (first
                    | go_big_quiet_skip
                    | (go_big_quiet_want; go_big_quiet_op
                       first
                         | go_big_quiet_on
                         | (apply Exists.intro
                            refine ⟨fun w' hw' => ?_, ?_⟩
                            · first
                             | exact rfl
                             | (rw [fp w' hw']; exact ⟨rfl, rfl⟩)
                            go_big_quiet_on)))
                refine wpQuiet_nil ?_
                intro w9 hb9
                clear fp t0
                have LI9 := (unhide HLI).below hb9
                have OW9 := own_below (unhide HOW) hb9
                have BB9 := below_trans' hbel hb9
                have t0 := cell_keep b0 BB9
                have t1 := cell_keep b1 BB9
                have q2 : ((N.length : Int) == (p : Int)) = false := beq_eq_false_iff_ne.2 (by omega)
                have HC3 := hide (unhide HSK hno)
                obtain ⟨a9, c9, rfl, -, -, hsp⟩ := zl_spot OW9
                have LI8 := hide LI9.free
                clear hno OW9 LI9
                go_wp2
                go_roundw
                case rel => exact ⟨i + 1, D, by omega, by go_num, HC3, LI8, BB9⟩
                case measure => simp [intOf]; omega
              · go_upto_region 11 with fail
                refine region_below (by kernel_rfl) (by kernel_rfl) ?_
                repeat
                  (first
                    | go_big_quiet_skip
                    | (go_big_quiet_want; go_big_quiet_op
                       first
                         | go_big_quiet_on
                         | (apply Exists.intro
                            refine ⟨fun w' hw' => ?_, ?_⟩
                            · first
                             | exact rfl
                             | (rw [fp w' hw']; exact ⟨rfl, rfl⟩)
                            go_big_quiet_on)))
                refine wpQuiet_nil ?_
                intro w9 hb9
                clear fp t0
                have LI9 := hide ((unhide HLI).below hb9)
                have OW9 := unhide HOW
                have OW9 := own_below OW9 hb9
                have BB9 := below_trans' hbel hb9
                have t0 := cell_keep b0 BB9
                have t1 := cell_keep b1 BB9
                have hbs := BB9.size
                have q2 : ((N.length : Int) == (p : Int)) = true := by
                  have : N.length = p := by omega
                  simp [this]
                obtain rfl : j = p := by omega
                have hall := (unhide HAK j (by omega)).2 (unhide HAl)
                have hXp : j ≤ X.length := by omega
                by_cases hle : n ≤ most
                · have hle' : decide (n ≤ most) = true := by simpa using hle
                  have HC3 := hide (unhide HYE hXp hall (by rw [← unhide HLv]; exact hle))
                  obtain ⟨a9, c9, rfl, -, -, hsp⟩ := zl_spot OW9
                  obtain ⟨us, OU, GU, -⟩ := unhide LI9
                  have hul : us.length ≤ 1000 := by
                    have h1 := GU.1
                    have h2 := unhide HDl
                    rw [List.length_map] at h1
                    omega
                  have HGU := hide GU
                  have HOU := hide OU
                  have I5 : Hid (Il w9 (sv (a9, N.length, c9)) N) := Gl.owned OW9
                  have T5 : Hid (Ty12 3 w9 (sv (a9, N.length, c9))) := Ty12.own OW9
                  clear GU LI9 OW9 hle hall
                  go_wp2_with (at_builtin; refine append_oneL (f := sv) rfl _ _ 27 rfl Try.underlying27 hi hz0 hz1 hz2 rfl sv_one12 (pre := us) (a9, N.length, c9) rfl rfl rfl OU (by omega) (by omega) (by omega) ?_; intro g8 c8 w8 O8 g8' l8; have B8 := BB9.grown g8' hbs (fun j hj => ((unhide HOU).lt j hj).1); have t9 := cell_keep b0 B8)
                  have LI8 := LiO.more (s := (a9, N.length, c9)) (unhide HOU) (unhide HGU) (unhide I5) (unhide T5) O8 g8'
                  rw [show D.map Z.gens ++ [N] = (D ++ [X.take j]).map Z.gens from by rw [unhide HN]; simp] at LI8
                  have HLI8 := hide LI8
                  clear O8 g8' l8 OU LI8 BB9
                  go_roundw
                  case rel => exact ⟨i + j, D ++ [X.take j], by omega, by go_num, HC3, HLI8, B8⟩
                  case measure => simp [intOf]; omega
                · have hle' : decide (n ≤ most) = false := by simpa using hle
                  have HC3 := hide (unhide HSK (fun hh => hle (by rw [unhide HLv]; exact hh.2.2)))
                  obtain ⟨a9, c9, rfl, -, -, hsp⟩ := zl_spot OW9
                  have LI8 := hide (unhide LI9).free
                  clear hle hall OW9 LI9
                  go_wp2
                  go_roundw
                  case rel => exact ⟨i + 1, D, by omega, by go_num, HC3, LI8, BB9⟩
                  case measure => simp [intOf]; omega
        · have hd9 := unhide HD
          rw [List.drop_eq_nil_of_le (by omega), Z.runs_few (by simp; omega), List.append_nil] at hd9
          have hDl : (D.map Z.gens).length ≤ 1000 := by rw [List.length_map, hd9]; omega
          obtain ⟨pa, pc, hpv⟩ := (unhide HLI).len
          have CA := ralone_any true _ _ _ _ L (D.map Z.gens) wr ((unhide HV).below (below_trans' BB2 hbel)) (unhide HLI) (unhide HF) hDl
          rw [hd9, ← unhide HRES] at CA
          obtain ⟨M, hM⟩ : ∃ M, (D.map Z.gens).length = M := ⟨_, rfl⟩
          rw [hM] at hpv
          subst hpv
          clear hDl hd9 hM
          go_wp2_with fail
          refine CA.mono ?_
          rintro e w5 ⟨v5, rfl, T5, B5⟩
          obtain ⟨a5, c5, rfl, -⟩ := T5.at
          have HT5 := hide T5
          have BB5 := below_trans' (below_trans' BB2 hbel) B5
          clear CA T5 B5
          go_wp2
          go_ret
          exact ⟨_, rfl, unhide HT5, BB5⟩
end Go.Proofs.Ytfniphaehggcgaa
