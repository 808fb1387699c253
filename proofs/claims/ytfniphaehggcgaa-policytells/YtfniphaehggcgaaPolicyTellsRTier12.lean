/-
  The contract of the document's own Tiered.
-/
import Derived.Test.YtfniphaehggcgaaPolicyTellsRAlone12
import Derived.Test.YtfniphaehggcgaaPolicyTellsRMay12
import Derived.Test.YtfniphaehggcgaaQ19
import Derived.Test.YtfniphaehggcgaaQ20
namespace Go.Proofs.Ytfniphaehggcgaa
set_option maxRecDepth 100000
open Go.RowKit Go.Deep

namespace Z
theorem tierTo_none {per : Nat} {most : Int} {l : List Sz} (h : Fit l) (h2 : 2 ≤ per) : ∀ (d : Nat), tierTo per most l (lev per 64 + 1 + d) = tierG per most l
  | 0 => rfl
  | d + 1 => by
    rw [← Nat.add_assoc, tierTo_succ, tierTo_none h h2 d]
    have e : l.filter (ofLv per (lev per 64 + 1 + d)) = [] := List.filter_eq_nil_iff.2 fun s hs hh => by
      have h1 := lv_le (per := per) (h.2 s hs)
      rw [ofLv, Bool.and_eq_true, decide_eq_true_eq] at hh
      omega
    rw [e, chunks_few (by simp; omega), List.append_nil]
theorem tierTo_seven {per most : Int} {l : List Sz} (h : Fit l) (hp : Pol per most) : tierTo per.toNat most l 7 = tierG per.toNat most l := by
  have h6 := lev_64 (per := per.toNat) (by have := hp.1.1; omega) (by have := hp.1.2; omega)
  have := tierTo_none (most := most) h (per := per.toNat) (by have := hp.1.1; omega) (6 - lev per.toNat 64)
  rwa [show lev per.toNat 64 + 1 + (6 - lev per.toNat 64) = 7 from by omega] at this
theorem chunks_full {per : Nat} {most : Int} {S r : List Sz} (h2 : 2 ≤ per) (hl : S.length = per) : chunks per most (S ++ r) = (if lives S ≤ most then [S] else []) ++ chunks per most r := by
  rw [chunks_more h2 (by rw [List.length_append]; omega), List.take_left' hl, List.drop_left' hl]
theorem lives_snoc (S : List Sz) (s : Sz) : lives (S ++ [s]) = lives S + live s := by
  rw [lives_app]
  simp [lives]
theorem gens_snoc (S : List Sz) (s : Sz) : gens (S ++ [s]) = gens S ++ [s.gen] := by simp [gens]
end Z

theorem LiO.taken9 {B : Nat} {w w' : World} {v tk tk' : Value} {ls : List (List Int)} {T : List Int} (h : LiO B w v tk ls) (ht : w.ownsRow B 3 1 tk T.length (T.map (Value.int .i64))) (hg : w.grownBy w' tk.ownBlock) (hk : ∀ k, tk'.ownBlock = some k → tk.ownBlock = some k ∨ w.heap.size ≤ k) : LiO B w' v tk' ls := by
  obtain ⟨us, h1, h2, h3⟩ := h
  refine ⟨us, h1.kept hg (own_apart h1 ht (by decide)), Gg.grown (R := Il) (fun h hg hne => Gl.keep12 h hg hne) h2 hg h3, fun s hs g hg' e => ?_⟩
  rcases hk g e.symm with h9 | h9
  · exact h3 s hs g hg' h9.symm
  · obtain ⟨cs, fr, hb⟩ := h2.ty hs g hg'
    have := (Array.getElem?_eq_some_iff.1 hb).1
    omega
theorem LiO.beside {B : Nat} {w : World} {v : Value} {ls : List (List Int)} (h : LiO B w v (.slice none 0 0) ls) : LiO B w v (.slice none 0 0) ls := h
theorem LiO.len {B : Nat} {w : World} {v tk : Value} {ls : List (List Int)} (h : LiO B w v tk ls) : ∃ a c, v = .slice a ls.length c := by
  obtain ⟨us, h1, h2, -⟩ := h
  obtain ⟨a, c, hv, -⟩ := zl_spot h1
  exact ⟨a, c, by rw [hv, h2.1]⟩

set_option maxRecDepth 100000 in
set_option maxHeartbeats 4000000 in
theorem rtiered_any (v : Value) (L : List Sz) (per most : Int) (w : World) (h : Zl w v L) (r mb : Bool) (hr : r = true ↔ Z.Ready L) (hm : mb = true ↔ Z.Pol per most) :
    Calls Try.prog 12 #[v, .agg #[.int .i64 per, .int .i64 most]] w fun e w' => ∃ v', e = .returned v' ∧ Tl w' v' (if (r && mb) = true then Z.prop true L (Z.tierG per.toNat most L) else []) ∧ Below w.heap.size w w' := by
  obtain ⟨i0, hi, hz0, hz1, hz2⟩ := info_parts Try.infoLI
  obtain ⟨j0, hj, hj0, hj1, hj2⟩ := info_parts Try.infoI10
  have HV := hide h
  have CM := fun w1 (hb : Below w.heap.size w w1) => rmay_any v L w1 (h.below hb) r hr
  have CP := fun w1 => rpolicy_any per most w1 mb hm
  obtain ⟨a, cap, rfl, hcl, -, -, ho⟩ := h.open
  obtain ⟨W, hW⟩ : ∃ W, W = w.alloc (.cells #[.int .i64 per, .int .i64 most] 24) := ⟨_, rfl⟩
  have BW : Below w.heap.size w W := by rw [hW]; exact below_alloc _ _
  have b0 : W.cell? ⟨w.heap.size, 0, none⟩ = some (.int .i64 per) := by rw [hW]; exact box_cell (heap_alloc_new w _) rfl
  have b1 : W.cell? ⟨w.heap.size, 1, none⟩ = some (.int .i64 most) := by rw [hW]; exact box_cell (heap_alloc_new w _) rfl
  have HW := hide hW
  obtain ⟨R, hR⟩ : ∃ R, (if (r && mb) = true then Z.prop true L (Z.tierG per.toNat most L) else []) = R := ⟨_, rfl⟩
  rw [hR]
  have HRR := hide hR
  have HR := hide hr
  have HM := hide hm
  have HO := hide ho
  clear hW h hr hm ho hR
  go_enter Try.func12, Try.ntmps12
  go_wp2_with fail
  rw [← unhide HW]
  refine (CM _ BW).mono ?_
  rintro e w1 ⟨rfl, B1⟩
  have b0 := cell_keep b0 B1
  have b1 := cell_keep b1 B1
  have BB1 := below_trans' BW B1
  clear CM B1 BW
  go_wp2_with fail
  refine (CP _).mono ?_
  rintro e w2 ⟨rfl, B2⟩
  have b0 := cell_keep b0 B2
  have b1 := cell_keep b1 B2
  have BB2 := below_trans' BB1 B2
  clear CP B2 BB1
  cases r with
  | false =>
    have hR0 : R = [] := by rw [← unhide HRR]; exact if_neg (by simp)
    subst hR0
    go_wp2
    go_ret
    exact ⟨_, rfl, (LiO.nil 0 _ (.slice none 0 0)).tl, BB2⟩
  | true =>
    cases mb with
    | false =>
      have hR0 : R = [] := by rw [← unhide HRR]; exact if_neg (by simp)
      subst hR0
      go_wp2
      go_ret
      exact ⟨_, rfl, (LiO.nil 0 _ (.slice none 0 0)).tl, BB2⟩
    | true =>
      have hRdy := (unhide HR).1 rfl
      have hPol := (unhide HM).1 rfl
      have hFit := hRdy.fit
      obtain ⟨p, rfl⟩ : ∃ p : Nat, per = (p : Int) := ⟨per.toNat, by have := hPol.1.1; omega⟩
      have h7 := Z.tierTo_seven hFit hPol
      rw [Int.toNat_natCast] at h7
      obtain ⟨T7, hT7⟩ : ∃ T7, Z.tierTo p most L 7 = T7 := ⟨_, rfl⟩
      rw [hT7] at h7
      have HRES : Hid (R = T7.map Z.gens ++ ((L.filter Z.idle).filter (Z.one true (T7.map Z.gens).flatten)).map fun s => [s.gen]) := by
        show _ = _
        rw [← unhide HRR, if_pos (by simp), Int.toNat_natCast, ← h7, Z.prop]
      have HT7 := hide hT7
      have hTl := fun k => Z.tierTo_len (per := p) (most := most) hFit k
      obtain ⟨⟨hp2, hp8⟩, hm1, hm64⟩ := hPol
      have hll := hFit.1
      have HF := hide hFit
      have HTl := hide hTl
      have HT0 : Hid (([] : List (List Sz)) = Z.tierTo p most L 0) := rfl
      clear hRdy hFit h7 hTl hT7 HRR
      go_wp2
      go_loopw [7, 8] (fun pv kv wr => ∃ (t : Nat) (D : List (List Sz)), t ≤ 7 ∧ kv = .int .i64 t ∧ Hid (D = Z.tierTo p most L t) ∧ Hid (LiO w2.heap.size wr pv (.slice none 0 0) (D.map Z.gens)) ∧ Below w2.heap.size w2 wr) (fun _ kv _ => 7 - (intOf kv).toNat)
      case atStart => exact ⟨0, [], by omega, rfl, HT0, LiO.nil _ _ _, Below.refl _ _⟩
      case round =>
        obtain ⟨t, D, ht, rfl, HD, HLI, hbel⟩ := hrel
        by_cases hlt : t < 7
        · have hlt' : decide ((t : Int) ≤ 6) = true := by simp; omega
          obtain ⟨T, hT⟩ : ∃ T, Z.tierTo p most L (t + 1) = T := ⟨_, rfl⟩
          have hTlen : T.length ≤ 112 := by rw [← hT]; have := unhide HTl (t + 1); omega
          have HCH : Hid (D ++ Z.chunks p most ([] ++ (L.drop 0).filter (Z.ofLv p t)) = T) := by show _ = _; rw [← hT, Z.tierTo_succ, ← unhide HD]; rfl
          have HTT := hide hT
          clear hT HD
          go_wp2
          go_loopw [7, 9, 10, 11] (fun pv sv' nv kv wr => ∃ (k : Nat) (D : List (List Sz)) (S : List Sz) (N : List Int) (n : Int), k ≤ L.length ∧ kv = .int .i64 k ∧ nv = .int .i64 n ∧ N.length < p ∧ (0 ≤ n ∧ n ≤ N.length * 64) ∧ Hid (N = Z.gens S) ∧ Hid (n = Z.lives S) ∧ Hid (D ++ Z.chunks p most (S ++ (L.drop k).filter (Z.ofLv p t)) = T) ∧ Hid (LiO w2.heap.size wr pv sv' (D.map Z.gens)) ∧ Hid (wr.ownsRow w2.heap.size 3 1 sv' N.length (N.map (Value.int .i64))) ∧ Below w2.heap.size w2 wr) (fun _ _ _ kv _ => L.length - (intOf kv).toNat)
          case atStart => exact ⟨0, D, [], [], 0, Nat.zero_le _, rfl, rfl, by simp; omega, by simp, rfl, rfl, HCH, HLI, World.ownsRow_nil _ _ _ _, hbel⟩
          case round =>
            clear HCH HLI hbel D
            obtain ⟨k, D, S, N, n, hk, rfl, rfl, hNp, ⟨hn0, hn1⟩, HN, HLv, HCH, HLI, HOW, hbel⟩ := hrel
            by_cases hlk : k < L.length
            · obtain ⟨b, off, rfl, hb, hc⟩ := unhide HO (by omega)
              obtain ⟨s, hx⟩ : ∃ x, L[k]? = some x := ⟨L[k], List.getElem?_eq_getElem hlk⟩
              obtain ⟨e0, e1, e2, e3⟩ := hc k s hx
              have hbw := below_trans' BB2 hbel
              have c0 := (hbw.cell (p := ⟨b, off + k * 4, none⟩) hb).trans e0
              have c1 := (hbw.cell (p := ⟨b, off + k * 4 + 1, none⟩) hb).trans e1
              have c2 := (hbw.cell (p := ⟨b, off + k * 4 + 2, none⟩) hb).trans e2
              have c3 := (hbw.cell (p := ⟨b, off + k * 4 + 3, none⟩) hb).trans e3
              have t0 := cell_keep b0 hbel
              have hOk := (unhide HF).2 s (List.mem_of_getElem? hx)
              have CL := fun w1 => rlevel_any s (p : Int) w1 hOk ⟨by omega, by omega⟩
              obtain ⟨q, hq⟩ : ∃ q, Z.lv p s = q := ⟨_, rfl⟩
              rw [Int.toNat_natCast, hq] at CL
              have hch := unhide HCH
              rw [drop_at12 hx] at hch
              have HOF : Hid (Z.ofLv p t s = (!s.busy && decide (q = t))) := by show _ = _; rw [Z.ofLv, hq]
              have HHC := hide hch
              obtain ⟨-, ⟨o3, o4⟩, o5, o6⟩ := hOk
              have hw1 : IntKind.i64.wrap (n + s.docs) = n + s.docs := by rw [IntKind.wrap_i64]; omega
              have hw2 : IntKind.i64.wrap (n + s.docs - s.dead) = n + s.docs - s.dead := by rw [IntKind.wrap_i64]; omega
              have HGS : Hid (N ++ [s.gen] = Z.gens (S ++ [s])) := by show _ = _; rw [Z.gens_snoc, ← unhide HN]
              have HLS : Hid (n + s.docs - s.dead = Z.lives (S ++ [s])) := by show _ = _; rw [Z.lives_snoc, ← unhide HLv, Z.live]; omega
              have f0 := fun w' (hb : Below wr.heap.size wr w') => cell_keep c0 hb
              have f1 := fun w' (hb : Below wr.heap.size wr w') => cell_keep c1 hb
              have f2 := fun w' (hb : Below wr.heap.size wr w') => cell_keep c2 hb
              have f3 := fun w' (hb : Below wr.heap.size wr w') => cell_keep c3 hb
              have fp := fun w' (hb : Below wr.heap.size wr w') => cell_keep t0 hb
              have HBC : Hid (∀ w', Below w.heap.size w w' → w'.cell? ⟨b, off + k * 4, none⟩ = some (.int .i64 s.gen) ∧ w'.cell? ⟨b, off + k * 4 + 1, none⟩ = some (.int .i64 s.docs) ∧ w'.cell? ⟨b, off + k * 4 + 2, none⟩ = some (.int .i64 s.dead)) := fun w' hb' => ⟨(hb'.cell (p := ⟨b, off + k * 4, none⟩) hb).trans e0, (hb'.cell (p := ⟨b, off + k * 4 + 1, none⟩) hb).trans e1, (hb'.cell (p := ⟨b, off + k * 4 + 2, none⟩) hb).trans e2⟩
              clear hc hx e0 e1 e2 e3 hq hch c0 c1 c2 c3 t0 hbw HCH
              by_cases hbu : s.busy = true
              · have HC2 : Hid (D ++ Z.chunks p most (S ++ (L.drop (k + 1)).filter (Z.ofLv p t)) = T) := by
                  have := unhide HHC
                  rw [List.filter_cons_of_neg (by rw [unhide HOF, hbu]; simp)] at this
                  exact this
                rw [hbu] at f3
                clear hbu
                go_upto_region 14 with fail
                refine region_below (by kernel_rfl) (by kernel_rfl) ?_
                repeat
                  (first
                    | go_big_quiet_skip
                    | (go_big_quiet_want; go_big_quiet_op
                       first
                         | go_big_quiet_on
                         | (apply Exists.intro
                            refine ⟨fun w' hw' => ?_, ?_⟩
                            · first
                             | exact rfl
                             | (rw [f3 w' hw']; exact ⟨rfl, rfl⟩)
                            go_big_quiet_on)))
                refine wpQuiet_nil ?_
                intro w9 hb9
                have LI9 := hide ((unhide HLI).below hb9)
                have OW9 := hide (own_below (unhide HOW) hb9)
                have BB9 := below_trans' hbel hb9
                clear f0 f1 f2 f3 fp CL
                go_wp2
                go_roundw
                case rel => exact ⟨k + 1, D, S, N, n, by omega, by go_num, rfl, hNp, ⟨hn0, hn1⟩, HN, HLv, HC2, LI9, OW9, BB9⟩
                case measure => simp [intOf]; omega
              · have hbu2 : s.busy = false := by simpa using hbu
                have HOF2 : Hid (Z.ofLv p t s = decide (q = t)) := by show _ = _; rw [unhide HOF, hbu2]; rfl
                unfold zv at CL
                rw [hbu2] at f3 CL
                clear hbu hbu2
                by_cases hqt : q = t
                · have q1 : ((q : Int) != (t : Int)) = false := by simp [hqt]
                  have HC2 : Hid (D ++ Z.chunks p most (S ++ [s] ++ (L.drop (k + 1)).filter (Z.ofLv p t)) = T) := by
                    have := unhide HHC
                    rw [List.filter_cons_of_pos (by rw [unhide HOF2]; simp [hqt])] at this
                    show _ = _
                    rw [List.append_assoc]
                    exact this
                  clear hqt
                  go_upto_region 14 with fail
                  refine region_below (by kernel_rfl) (by kernel_rfl) ?_
                  repeat
                    (first
                      | go_big_quiet_skip
                      | (go_big_quiet_want; go_big_quiet_op
                         first
                           | go_big_quiet_on
                           | (apply Exists.intro
                              refine ⟨fun w' hw' => ?_, ?_⟩
                              · first
                               | exact rfl
                               | (rw [f3 w' hw']; exact ⟨rfl, rfl⟩)
                               | (rw [f0 w' hw']; dsimp only [Result.andThen]; rw [f1 w' hw']; dsimp only [Result.andThen]; rw [f2 w' hw']; dsimp only [Result.andThen]; rw [f3 w' hw']; exact ⟨rfl, rfl⟩)
                               | (rw [fp w' hw']; exact ⟨rfl, rfl⟩)
                               | (go_at_call 31; exact (CL _).mono fun e w'' ⟨h1, h2⟩ => ⟨h1, below_trans' hw' h2⟩)
                              go_big_quiet_on)))
                  refine wpQuiet_nil ?_
                  intro w9 hb9
                  have LI9 := hide ((unhide HLI).below hb9)
                  have OW9 := own_below (unhide HOW) hb9
                  have BB9 := below_trans' hbel hb9
                  have hbs := BB9.size
                  have c0 := f0 _ hb9
                  obtain ⟨y0, y1, y2⟩ := unhide HBC _ (below_trans' BB2 BB9)
                  have HOW9 := hide OW9
                  clear f0 f1 f2 f3 fp CL hb9 HLI HOW hbel y0 y1 y2
                  go_wp2_with (at_builtin; refine append_oneL (f := Value.int .i64) rfl _ _ 47 rfl Try.underlying47 hj hj0 hj1 hj2 rfl (fun _ => rfl) (pre := N) s.gen rfl rfl rfl OW9 (by omega) (by omega) (by omega) ?_; intro g7 c7 w7 O7 g7' l7; have B7 := BB9.grown g7' hbs (fun j hj => (OW9.lt j hj).1); obtain ⟨x0, x1, x2⟩ := unhide HBC _ (below_trans' BB2 B7))
                  have LI7 := LiO.taken9 (tk' := .slice (some ⟨g7, 0, none⟩) (N.length + 1) c7) (unhide LI9) (unhide HOW9) g7' (fun k hk => by
                    simp only [Value.ownBlock, Option.some.injEq] at hk
                    subst hk
                    exact l7)
                  have e9 : N.length + 1 = (N ++ [s.gen]).length := by simp
                  rw [e9] at LI7 O7 ⊢
                  obtain ⟨N2, hN2⟩ : ∃ N2, N ++ [s.gen] = N2 := ⟨_, rfl⟩
                  have hN2l : N2.length = N.length + 1 := by rw [← hN2]; simp
                  rw [hN2] at LI7 O7 HGS ⊢
                  have hNN : N2.length ≤ p := by omega
                  have HN2L := hide hN2l
                  have HLI7 := hide LI7
                  have HO7 := hide O7
                  clear g7' l7 LI9 OW9 BB9 hbs HOW9 c0 e9 hN2 O7 LI7 hN2l
                  go_quiet (fail)
                  obtain ⟨W5, hW5⟩ : ∃ W5, W5 = w7.drewN nq := ⟨_, rfl⟩
                  have hQ : Below w7.heap.size w7 W5 := by rw [hW5]; exact below_dr' (Below.refl _ _) nq
                  rw [← hW5]
                  have B5 := below_trans' B7 hQ
                  have t0 := cell_keep b0 B5
                  have t1 := cell_keep b1 B5
                  have LI5 := hide ((unhide HLI7).below hQ)
                  have OW5 := hide (own_below (unhide HO7) hQ)
                  have hb5 := B5.size
                  clear hW5 hQ HLI7 HO7 B7 x0 x1 x2
                  by_cases hfull : N2.length = p
                  · have q2 : ((N2.length : Int) == (p : Int)) = true := by simp [hfull]
                    have hS2 : (S ++ [s]).length = p := by have := congrArg List.length (unhide HGS); simp only [Z.gens, List.length_map] at this; omega
                    have hch2 := unhide HC2
                    rw [Z.chunks_full (by omega) hS2, ← unhide HLS] at hch2
                    clear hS2 hfull
                    by_cases hle : n + s.docs - s.dead ≤ most
                    · have hle' : decide (n + s.docs - s.dead ≤ most) = true := by simpa using hle
                      rw [if_pos hle] at hch2
                      have HC3 : Hid ((D ++ [S ++ [s]]) ++ Z.chunks p most ([] ++ (L.drop (k + 1)).filter (Z.ofLv p t)) = T) := by show _ = _; rw [List.append_assoc]; exact hch2
                      obtain ⟨us, OU, GU, -⟩ := unhide LI5
                      have hul : us.length ≤ 1000 := by
                        have h1 := GU.1
                        have h2 := congrArg List.length hch2
                        rw [List.length_append] at h2
                        rw [List.length_map] at h1
                        omega
                      have HGU := hide GU
                      have HOU := hide OU
                      have I5 : Hid (Il W5 (sv (some ⟨g7, 0, none⟩, N2.length, c7)) N2) := Gl.owned (unhide OW5)
                      have T5 : Hid (Ty12 3 W5 (sv (some ⟨g7, 0, none⟩, N2.length, c7))) := Ty12.own (unhide OW5)
                      clear hch2 GU LI5 OW5 hle
                      go_wp2_with (at_builtin; refine append_oneL (f := sv) rfl _ _ 27 rfl Try.underlying27 hi hz0 hz1 hz2 rfl sv_one12 (pre := us) (some ⟨g7, 0, none⟩, N2.length, c7) rfl rfl rfl OU (by omega) (by omega) (by omega) ?_; intro g8 c8 w8 O8 g8' l8; have B8 := B5.grown g8' hb5 (fun j hj => ((unhide HOU).lt j hj).1))
                      have LI8 := LiO.more (s := (some ⟨g7, 0, none⟩, N2.length, c7)) (unhide HOU) (unhide HGU) (unhide I5) (unhide T5) O8 g8'
                      rw [show D.map Z.gens ++ [N2] = (D ++ [S ++ [s]]).map Z.gens from by rw [unhide HGS]; simp] at LI8
                      have HLI8 := hide LI8
                      clear O8 g8' l8 OU LI8 B5
                      go_roundw
                      case rel => exact ⟨k + 1, D ++ [S ++ [s]], [], [], 0, by omega, by go_num, rfl, by simp; omega, by simp, rfl, rfl, HC3, HLI8, World.ownsRow_nil _ _ _ _, B8⟩
                      case measure => simp [intOf]; omega
                    · have hle' : decide (n + s.docs - s.dead ≤ most) = false := by simpa using hle
                      rw [if_neg hle, List.nil_append] at hch2
                      have HC3 : Hid (D ++ Z.chunks p most ([] ++ (L.drop (k + 1)).filter (Z.ofLv p t)) = T) := hch2
                      have LI8 := hide (unhide LI5).free
                      clear hch2 hle
                      go_wp2
                      go_roundw
                      case rel => exact ⟨k + 1, D, [], [], 0, by omega, by go_num, rfl, by simp; omega, by simp, rfl, rfl, HC3, LI8, World.ownsRow_nil _ _ _ _, B5⟩
                      case measure => simp [intOf]; omega
                  · have q2 : ((N2.length : Int) == (p : Int)) = false := beq_eq_false_iff_ne.2 (by omega)
                    have hn2 : 0 ≤ n + s.docs - s.dead ∧ n + s.docs - s.dead ≤ N2.length * 64 := by have := unhide HN2L; omega
                    have hNp2 : N2.length < p := by omega
                    clear hfull
                    go_wp2
                    go_roundw
                    case rel => exact ⟨k + 1, D, S ++ [s], N2, n + s.docs - s.dead, by omega, by go_num, by go_num, hNp2, hn2, HGS, HLS, HC2, LI5, OW5, B5⟩
                    case measure => simp [intOf]; omega
                · have q1 : ((q : Int) != (t : Int)) = true := bne_iff_ne.2 (by omega)
                  have HC2 : Hid (D ++ Z.chunks p most (S ++ (L.drop (k + 1)).filter (Z.ofLv p t)) = T) := by
                    have := unhide HHC
                    rw [List.filter_cons_of_neg (by rw [unhide HOF2]; simp [hqt])] at this
                    exact this
                  clear hqt
                  go_upto_region 14 with fail
                  refine region_below (by kernel_rfl) (by kernel_rfl) ?_
                  repeat
                    (first
                      | go_big_quiet_skip
                      | (go_big_quiet_want; go_big_quiet_op
                         first
                           | go_big_quiet_on
                           | (apply Exists.intro
                              refine ⟨fun w' hw' => ?_, ?_⟩
                              · first
                               | exact rfl
                               | (rw [f3 w' hw']; exact ⟨rfl, rfl⟩)
                               | (rw [f0 w' hw']; dsimp only [Result.andThen]; rw [f1 w' hw']; dsimp only [Result.andThen]; rw [f2 w' hw']; dsimp only [Result.andThen]; rw [f3 w' hw']; exact ⟨rfl, rfl⟩)
                               | (rw [fp w' hw']; exact ⟨rfl, rfl⟩)
                               | (go_at_call 31; exact (CL _).mono fun e w'' ⟨h1, h2⟩ => ⟨h1, below_trans' hw' h2⟩)
                              go_big_quiet_on)))
                  refine wpQuiet_nil ?_
                  intro w9 hb9
                  have LI9 := hide ((unhide HLI).below hb9)
                  have OW9 := hide (own_below (unhide HOW) hb9)
                  have BB9 := below_trans' hbel hb9
                  clear f0 f1 f2 f3 fp CL
                  go_wp2
                  go_roundw
                  case rel => exact ⟨k + 1, D, S, N, n, by omega, by go_num, rfl, hNp, ⟨hn0, hn1⟩, HN, HLv, HC2, LI9, OW9, BB9⟩
                  case measure => simp [intOf]; omega
            · have HD2 : Hid (D = Z.tierTo p most L (t + 1)) := by
                have h1 := unhide HCH
                have h2 : S.length = N.length := by rw [unhide HN]; simp [Z.gens]
                rw [List.drop_eq_nil_of_le (by omega), List.filter_nil, List.append_nil, Z.chunks_few (by omega), List.append_nil] at h1
                show _ = _
                rw [h1, unhide HTT]
              have HL2 := hide (LiO.free (unhide HLI))
              go_wp2
              go_roundw
              case rel => exact ⟨t + 1, D, by omega, by go_num, HD2, HL2, hbel⟩
              case measure => simp [intOf]; omega
        · have hlt' : decide ((t : Int) ≤ 6) = false := by simp; omega
          have ht7 : t = 7 := by omega
          subst ht7
          have hDl : (D.map Z.gens).length ≤ 1000 := by rw [List.length_map, unhide HD]; have := unhide HTl 7; omega
          obtain ⟨pa, pc, hpv⟩ := (unhide HLI).len
          have hD7 : D = T7 := by rw [unhide HD, unhide HT7]
          have CA := ralone_any true _ _ _ _ L (D.map Z.gens) wr ((unhide HV).below (below_trans' BB2 hbel)) (unhide HLI) (unhide HF) hDl
          rw [hD7, ← unhide HRES] at CA
          obtain ⟨M, hM⟩ : ∃ M, (D.map Z.gens).length = M := ⟨_, rfl⟩
          rw [hM] at hpv
          subst hpv
          clear hDl hD7 hM
          go_wp2_with fail
          refine CA.mono ?_
          rintro e w5 ⟨v5, rfl, T5, B5⟩
          obtain ⟨a5, c5, rfl, -⟩ := T5.at
          have HT5 := hide T5
          have BB5 := below_trans' (below_trans' BB2 hbel) B5
          clear CA T5 B5
          go_wp2
          go_ret
          exact ⟨_, rfl, unhide HT5, BB5⟩
end Go.Proofs.Ytfniphaehggcgaa
