/-
  MergeTurned: the law's own walk.
-/
import Derived.Test.YtnahjaloodeicaaGreatK30
import Derived.Test.YtnahjaloodeicaaGreatK16
namespace Go.Proofs.YtnahjaloodeicaaGreat
set_option maxRecDepth 100000
open Go.RowKit Go.Deep

namespace G
theorem errL_perm {L M : List Cd} (p : L.Perm M) : errL L = errL M := by
  have e1 : S.mayAll L = S.mayAll M := by
    have key : ∀ {A B : List Cd}, A.Perm B → S.mayAll A = true → S.mayAll B = true := fun {A B} q h => by
      unfold S.mayAll at h ⊢
      rw [Bool.and_eq_true, List.all_eq_true, decide_eq_true_eq] at h ⊢
      exact ⟨fun c hc => h.1 c (q.mem_iff.2 hc), (q.map _).nodup_iff.1 h.2⟩
    rw [Bool.eq_iff_iff]
    exact ⟨key p, key p.symm⟩
  unfold errL
  rw [e1, p.length_eq, S.words_perm p]
theorem errIs_turned {s t : Sq} {x y : List Bool} {n m : Int} (h : ErrIs [s, t] [x, y] n) (k : ErrIs [t, s] [y, x] m) : n = m := by
  rcases h with ⟨h1, h2⟩ | ⟨h1, h2⟩ <;> rcases k with ⟨k1, k2⟩ | ⟨k1, k2⟩
  · rw [h2, k2]
  · exact absurd (turned_right k1) h1
  · exact absurd (turned_right h1) k1
  · rw [h2, k2, errL_perm (turned_perm s t x y)]
end G
theorem big_two {s t : G.Sq} (h1 : FewS s.1) (h2 : FewS t.1) : Big [s, t] := fun u hu => by
  simp only [List.mem_cons, List.not_mem_nil, or_false] at hu
  rcases hu with rfl | rfl
  · exact ⟨fun x hx => by have := h1.1 x hx; unfold maxLen; omega, by have := h1.2; omega⟩
  · exact ⟨fun x hx => by have := h2.1 x hx; unfold maxLen; omega, by have := h2.2; omega⟩

/-- Two segments, two lists: literals. -/
theorem Gs.two {e : TypeId} {w : World} {g : Nat} {s t : Sg} {so tso : Bool} {ia ka lna ta ia2 ka2 lna2 ta2 : Option Addr} {ic kc lnc tc ic2 kc2 lnc2 tc2 : Nat} (h : Sv w (.slice ia s.ids.length ic) (.slice ka s.keys.length kc) (.slice lna s.lens.length lnc) (.slice ta s.ts.length tc) s) (k : Sv w (.slice ia2 t.ids.length ic2) (.slice ka2 t.keys.length kc2) (.slice lna2 t.lens.length lnc2) (.slice ta2 t.ts.length tc2) t) (hg : g = w.heap.size) :
    Gs (w.alloc (.cells #[.slice ia s.ids.length ic, .slice ka s.keys.length kc, .slice lna s.lens.length lnc, .slice ta s.ts.length tc, .bool so, .slice ia2 t.ids.length ic2, .slice ka2 t.keys.length kc2, .slice lna2 t.lens.length lnc2, .slice ta2 t.ts.length tc2, .bool tso] e)) (.slice (some ⟨g, 0, none⟩) 2 2) [(s, so), (t, tso)] := by
  refine Gs.lit [((s, so), (ia, s.ids.length, ic), (ka, s.keys.length, kc), (lna, s.lens.length, lnc), (ta, s.ts.length, tc)), ((t, tso), (ia2, t.ids.length, ic2), (ka2, t.keys.length, kc2), (lna2, t.lens.length, lnc2), (ta2, t.ts.length, tc2))] rfl rfl (fun p hp => ?_) rfl (by decide) hg
  simp only [List.mem_cons, List.not_mem_nil, or_false] at hp
  rcases hp with rfl | rfl
  · exact h
  · exact k
theorem Bll.two {e : TypeId} {w : World} {g n1 c1 n2 c2 : Nat} {x y : List Bool} {a1 a2 : Option Addr} (h : Gl .bool w (.slice a1 n1 c1) x) (k : Gl .bool w (.slice a2 n2 c2) y) (hg : g = w.heap.size) : Bll (w.alloc (.cells #[.slice a1 n1 c1, .slice a2 n2 c2] e)) (.slice (some ⟨g, 0, none⟩) 2 2) [x, y] := by
  refine Lg.lits [(a1, n1, c1), (a2, n2, c2)] [x, y] rfl rfl (fun i s l h1 h2 => ?_) rfl (by decide) hg
  match i, h1, h2 with
  | 0, h1, h2 =>
    simp at h1 h2
    subst h1 h2
    exact h
  | 1, h1, h2 =>
    simp at h1 h2
    subst h1 h2
    exact k
  | n + 2, h1, h2 => simp at h1

/-- What Merge hands back, its segment in a box behind it. -/
def RetG (w : World) (l : List G.Sq) (ls : List (List Bool)) (so : Bool) (iv kv lv tv : Value) (b : Bool) (n : Int) : Prop :=
  G.ErrIs l ls n ∧ (n = 0 → b = so ∧ Sv w iv kv lv tv (G.out so (G.left l ls)))
theorem MrgEnd.ret {w w' : World} {l : List G.Sq} {ls : List (List Bool)} {so : Bool} {e : Ending} (h : MrgEnd w l ls so e w') : ∃ (ia ka lna ta : Option Addr) (n1 n2 n3 n4 ic kc lnc tc : Nat) (tv : Value) (b : Bool) (n : Int), e = .returned (.tuple #[.agg #[.slice ia n1 ic, .slice ka n2 kc, .slice lna n3 lnc, .slice ta n4 tc, .bool b], tv, .int .i64 n]) ∧
    RetG w' l ls so (.slice ia n1 ic) (.slice ka n2 kc) (.slice lna n3 lnc) (.slice ta n4 tc) b n ∧ (n = 0 → Tl w' tv (G.tabs (G.out so (G.left l ls)).ids l ls)) ∧ (n ≠ 0 → tv = .slice none 0 0 ∧ n1 = 0 ∧ n4 = 0) ∧ (∃ a c d, tv = .slice a c d) ∧ Below w.heap.size w w' := by
  obtain ⟨n, h1, h2, h3⟩ := h
  rcases h2 with ⟨rfl, ia, ka, lna, ta, ic, kc, lnc, tc, tv, s, rfl, rfl, h4, h5⟩ | ⟨h0, rfl⟩
  · obtain ⟨a, c, h6, -⟩ := h5.at
    exact ⟨ia, ka, lna, ta, _, _, _, _, ic, kc, lnc, tc, tv, so, 0, rfl, ⟨h1, fun _ => ⟨rfl, h4⟩⟩, fun _ => h5, fun h9 => absurd rfl h9, ⟨_, _, _, h6⟩, h3⟩
  · exact ⟨none, none, none, none, 0, 0, 0, 0, 0, 0, 0, 0, _, false, n, rfl, ⟨h1, fun h9 => absurd h9 h0⟩, fun h9 => absurd h9 h0, fun _ => ⟨rfl, rfl, rfl⟩, ⟨_, _, _, rfl⟩, h3⟩
theorem RetG.below {w w' : World} {l : List G.Sq} {ls : List (List Bool)} {so : Bool} {iv kv lv tv : Value} {b : Bool} {n : Int} (h : RetG w l ls so iv kv lv tv b n) (hb : Below w.heap.size w w') : RetG w' l ls so iv kv lv tv b n := ⟨h.1, fun h0 => ⟨(h.2 h0).1, (h.2 h0).2.below hb⟩⟩

theorem Sv.lens11 {w : World} {a b c d : Option Addr} {n1 n2 n3 n4 c1 c2 c3 c4 : Nat} {s : Sg} (h : Sv w (.slice a n1 c1) (.slice b n2 c2) (.slice c n3 c3) (.slice d n4 c4) s) : n1 = s.ids.length ∧ n2 = s.keys.length ∧ n3 = s.lens.length ∧ n4 = s.ts.length := by
  obtain ⟨_, _, _, _, _, _, _, _, e1, e2, e3, e4⟩ := h.shape
  simp only [Value.slice.injEq] at e1 e2 e3 e4
  exact ⟨e1.2.1, e2.2.1, e3.2.1, e4.2.1⟩

set_option linter.unusedSimpArgs false in
set_option maxRecDepth 100000 in
set_option maxHeartbeats 8000000 in
theorem mergeTurned_walk (ia ka lna ta : Option Addr) (ic kc lnc tc : Nat) (s : Sg) (so : Bool) (ia2 ka2 lna2 ta2 : Option Addr) (ic2 kc2 lnc2 tc2 : Nat) (t : Sg) (tso : Bool) (vx vy : Value) (x y : List Bool) (w : World)
    (h : Sv w (.slice ia s.ids.length ic) (.slice ka s.keys.length kc) (.slice lna s.lens.length lnc) (.slice ta s.ts.length tc) s) (k : Sv w (.slice ia2 t.ids.length ic2) (.slice ka2 t.keys.length kc2) (.slice lna2 t.lens.length lnc2) (.slice ta2 t.ts.length tc2) t) (hx : Gl .bool w vx x) (hy : Gl .bool w vy y) :
    Calls Tryz.prog 6 #[.agg #[.slice ia s.ids.length ic, .slice ka s.keys.length kc, .slice lna s.lens.length lnc, .slice ta s.ts.length tc, .bool so], .agg #[.slice ia2 t.ids.length ic2, .slice ka2 t.keys.length kc2, .slice lna2 t.lens.length lnc2, .slice ta2 t.ts.length tc2, .bool tso], vx, vy] w
      fun e w' => e = .returned (.bool true) ∧ Below w.heap.size w w' := by
  obtain ⟨p, hp⟩ : ∃ p, w.heap.size = p := ⟨_, rfl⟩
  obtain ⟨W0, hW0⟩ : ∃ W0, W0 = w.alloc (.cells #[.slice ia s.ids.length ic, .slice ka s.keys.length kc, .slice lna s.lens.length lnc, .slice ta s.ts.length tc, .bool so] 30) := ⟨_, rfl⟩
  have hz0 : W0.heap.size = p + 1 := by rw [hW0, ← hp]; simp
  have X0 : W0.heap[p]? = some (.cells #[.slice ia s.ids.length ic, .slice ka s.keys.length kc, .slice lna s.lens.length lnc, .slice ta s.ts.length tc, .bool so] 30 (0, 0)) := by rw [hW0, ← hp]; exact heap_alloc_new w _
  obtain ⟨W, hW⟩ : ∃ W, W = W0.alloc (.cells #[.slice ia2 t.ids.length ic2, .slice ka2 t.keys.length kc2, .slice lna2 t.lens.length lnc2, .slice ta2 t.ts.length tc2, .bool tso] 30) := ⟨_, rfl⟩
  have X1 : W.heap[p + 1]? = some (.cells #[.slice ia2 t.ids.length ic2, .slice ka2 t.keys.length kc2, .slice lna2 t.lens.length lnc2, .slice ta2 t.ts.length tc2, .bool tso] 30 (0, 0)) := by rw [hW, ← hz0]; exact heap_alloc_new W0 _
  have B0 : Below w.heap.size w W0 := by rw [hW0]; exact below_alloc _ _
  have B1 : Below W0.heap.size W0 W := by rw [hW]; exact below_alloc _ _
  have BW := below_trans' B0 B1
  replace X0 := box_below X0 B1
  replace h := h.below BW
  replace k := k.below BW
  replace hx := hx.below BW
  replace hy := hy.below BW
  have CA := awakeM_any W
  rw [hW0] at hW
  have HW := hide hW
  obtain ⟨xa, xc, rfl, hxl, hxm, hxn, -⟩ := hx.open
  obtain ⟨ya, yc, rfl, hyl, hym, hyn, -⟩ := hy.open
  clear hW0 hW B0 B1 hz0
  go_enter Tryz.func6, Tryz.ntmps6
  go_wp2_with fail
  rw [← unhide HW]
  refine CA.mono ?_
  rintro e w1 ⟨rfl, B1⟩
  have BB1 := below_trans' BW B1
  replace X0 := box_below X0 B1
  replace X1 := box_below X1 B1
  replace h := h.below B1
  replace k := k.below B1
  replace hx := hx.below B1
  replace hy := hy.below B1
  have x0 := box_cell X0 (j := 0) rfl
  have x1 := box_cell X0 (j := 1) rfl
  have x2 := box_cell X0 (j := 2) rfl
  have x3 := box_cell X0 (j := 3) rfl
  have x4 := box_cell X0 (j := 4) rfl
  have CF := fewSeg_any ia ka lna ta ic kc lnc tc s so w1 h
  clear CA B1 BW
  go_wp2_with fail
  refine CF.mono ?_
  rintro e w2 ⟨r1, rfl, hr1, B2⟩
  have BB2 := below_trans' BB1 B2
  replace X0 := box_below X0 B2
  replace X1 := box_below X1 B2
  replace h := h.below B2
  replace k := k.below B2
  replace hx := hx.below B2
  replace hy := hy.below B2
  replace x0 := box_cell X1 (j := 0) rfl
  replace x1 := box_cell X1 (j := 1) rfl
  replace x2 := box_cell X1 (j := 2) rfl
  replace x3 := box_cell X1 (j := 3) rfl
  replace x4 := box_cell X1 (j := 4) rfl
  have CF2 := fewSeg_any ia2 ka2 lna2 ta2 ic2 kc2 lnc2 tc2 t tso w2 k
  have HR1 := hide hr1
  clear CF B2 BB1 hr1
  go_wp2_with fail
  refine CF2.mono ?_
  rintro e w3 ⟨r2, rfl, hr2, B3⟩
  have BB3 := below_trans' BB2 B3
  replace X0 := box_below X0 B3
  replace X1 := box_below X1 B3
  replace h := h.below B3
  replace k := k.below B3
  replace hx := hx.below B3
  replace hy := hy.below B3
  have HR2 := hide hr2
  clear CF2 B3 BB2 hr2 x0 x1 x2 x3 x4
  cases r1 with
  | false =>
    clear X0 X1
    go_wp2
    go_ret
    exact ⟨rfl, BB3⟩
  | true =>
  cases r2 with
  | false =>
    clear X0 X1
    go_wp2
    go_ret
    exact ⟨rfl, BB3⟩
  | true =>
  by_cases n1 : 70 < x.length
  · have n1' : (70 : Int) < (x.length : Int) := by omega
    clear X0 X1
    go_wp2
    go_ret
    exact ⟨rfl, BB3⟩
  · by_cases n2 : 70 < y.length
    · have n1' : ¬ (70 : Int) < (x.length : Int) := by omega
      have n2' : (70 : Int) < (y.length : Int) := by omega
      clear X0 X1
      go_wp2
      go_ret
      exact ⟨rfl, BB3⟩
    · have n1' : ¬ (70 : Int) < (x.length : Int) := by omega
      have n2' : ¬ (70 : Int) < (y.length : Int) := by omega
      have F1 := hide ((unhide HR1) rfl)
      have F2 := hide ((unhide HR2) rfl)
      have y0 := box_cell X0 (j := 0) rfl
      have y1 := box_cell X0 (j := 1) rfl
      have y2 := box_cell X0 (j := 2) rfl
      have y3 := box_cell X0 (j := 3) rfl
      have y4 := box_cell X0 (j := 4) rfl
      have x0 := box_cell X1 (j := 0) rfl
      have x1 := box_cell X1 (j := 1) rfl
      have x2 := box_cell X1 (j := 2) rfl
      have x3 := box_cell X1 (j := 3) rfl
      have x4 := box_cell X1 (j := 4) rfl
      obtain ⟨U, hU⟩ : ∃ U, U = w3.alloc (.cells #[.slice ia s.ids.length ic, .slice ka s.keys.length kc, .slice lna s.lens.length lnc, .slice ta s.ts.length tc, .bool so, .slice ia2 t.ids.length ic2, .slice ka2 t.keys.length kc2, .slice lna2 t.lens.length lnc2, .slice ta2 t.ts.length tc2, .bool tso] 30) := ⟨_, rfl⟩
      have BU : Below w3.heap.size w3 U := by rw [hU]; exact below_alloc _ _
      have GU : Gs U (.slice (some ⟨w3.heap.size, 0, none⟩) 2 2) [(s, so), (t, tso)] := by rw [hU]; exact Gs.two h k rfl
      have hzU : U.heap.size = w3.heap.size + 1 := by rw [hU]; simp
      obtain ⟨V, hV⟩ : ∃ V, V = U.alloc (.cells #[.slice xa x.length xc, .slice ya y.length yc] 38) := ⟨_, rfl⟩
      have BV : Below U.heap.size U V := by rw [hV]; exact below_alloc _ _
      have LV : Bll V (.slice (some ⟨w3.heap.size + 1, 0, none⟩) 2 2) [x, y] := by rw [hV]; exact Bll.two (hx.below BU) (hy.below BU) hzU.symm
      have CM := mergeM_any _ _ [(s, so), (t, tso)] [x, y] true V (GU.below BV) LV (big_two (unhide F1) (unhide F2)) (by simp) (fun hR => by have := G.left_le hR; simp at this; omega)
      have BUV := below_trans' BU BV
      have BB4 := hide (below_trans' BB3 BUV)
      have X0' := hide (box_below X0 BUV)
      have X1' := hide (box_below X1 BUV)
      have h' := hide (h.below BUV)
      have k' := hide (k.below BUV)
      have hx' := hide (hx.below BUV)
      have hy' := hide (hy.below BUV)
      rw [hU] at hV
      have HV := hide hV
      clear BU GU hzU BV LV BUV BB3 X0 X1 h k hx hy hU hV HR1 HR2
      go_wp2_with fail
      rw [← unhide HV]
      refine CM.mono ?_
      rintro e w4 h4
      obtain ⟨ja, jb, jc, jd, m1, m2, m3, m4, jia, jib, jic, jid, jv, jb0, jn, rfl, R4, -, -, ⟨jt1, jt2, jt3, rfl⟩, B4⟩ := h4.ret
      have X0'' := box_below (unhide X0') B4
      have X1'' := box_below (unhide X1') B4
      have hp4 : p < w4.heap.size := (Array.getElem?_eq_some_iff.1 X0'').1
      have hp5 : p + 1 < w4.heap.size := (Array.getElem?_eq_some_iff.1 X1'').1
      have z0 := box_cell X0'' (j := 0) rfl
      have z1 := box_cell X0'' (j := 1) rfl
      have z2 := box_cell X0'' (j := 2) rfl
      have z3 := box_cell X0'' (j := 3) rfl
      have z4 := box_cell X0'' (j := 4) rfl
      have v0 := box_cell X1'' (j := 0) rfl
      have v1 := box_cell X1'' (j := 1) rfl
      have v2 := box_cell X1'' (j := 2) rfl
      have v3 := box_cell X1'' (j := 3) rfl
      have v4 := box_cell X1'' (j := 4) rfl
      obtain ⟨U1, hU1⟩ : ∃ U1, U1 = w4.alloc (.cells #[.slice ja m1 jia, .slice jb m2 jib, .slice jc m3 jic, .slice jd m4 jid, .bool jb0] 30) := ⟨_, rfl⟩
      have BU1 : Below w4.heap.size w4 U1 := by rw [hU1]; exact below_alloc _ _
      obtain ⟨p4, hp4'⟩ : ∃ p4, w4.heap.size = p4 := ⟨_, rfl⟩
      have hp4b : p < p4 := by omega
      have hp5b : p + 1 < p4 := by omega
      have Y1 : U1.heap[p4]? = some (.cells #[.slice ja m1 jia, .slice jb m2 jib, .slice jc m3 jic, .slice jd m4 jid, .bool jb0] 30 (0, 0)) := by rw [hU1, ← hp4']; exact heap_alloc_new w4 _
      have hzU1 : U1.heap.size = p4 + 1 := by rw [hU1, ← hp4']; simp
      obtain ⟨U2, hU2⟩ : ∃ U2, U2 = U1.alloc (.cells #[.slice ia2 t.ids.length ic2, .slice ka2 t.keys.length kc2, .slice lna2 t.lens.length lnc2, .slice ta2 t.ts.length tc2, .bool tso, .slice ia s.ids.length ic, .slice ka s.keys.length kc, .slice lna s.lens.length lnc, .slice ta s.ts.length tc, .bool so] 30) := ⟨_, rfl⟩
      have BU2 : Below U1.heap.size U1 U2 := by rw [hU2]; exact below_alloc _ _
      have GU2 : Gs U2 (.slice (some ⟨p4 + 1, 0, none⟩) 2 2) [(t, tso), (s, so)] := by rw [hU2]; exact Gs.two (((unhide k').below B4).below BU1) (((unhide h').below B4).below BU1) hzU1.symm
      have hzU2 : U2.heap.size = p4 + 1 + 1 := by rw [hU2]; simp [hzU1]
      obtain ⟨V2, hV2⟩ : ∃ V2, V2 = U2.alloc (.cells #[.slice ya y.length yc, .slice xa x.length xc] 38) := ⟨_, rfl⟩
      have BV2 : Below U2.heap.size U2 V2 := by rw [hV2]; exact below_alloc _ _
      have B4V := below_trans' BU1 (below_trans' BU2 BV2)
      have LV2 : Bll V2 (.slice (some ⟨p4 + 1 + 1, 0, none⟩) 2 2) [y, x] := by rw [hV2]; exact Bll.two ((((unhide hy').below B4).below BU1).below BU2) ((((unhide hx').below B4).below BU1).below BU2) hzU2.symm
      have CM2 := mergeM_any _ _ [(t, tso), (s, so)] [y, x] true V2 (GU2.below BV2) LV2 (big_two (unhide F2) (unhide F1)) (by simp) (fun hR => by have := G.left_le hR; simp at this; omega)
      have R5 := hide (R4.below B4V)
      have Y5 := hide (box_below Y1 (below_trans' BU2 BV2))
      have BB5 := hide (below_trans' (unhide BB4) (below_trans' B4 B4V))
      rw [hU2, hU1] at hV2
      have HV2 := hide hV2
      clear CM h4 R4 B4 X0'' X1'' BU1 Y1 hzU1 BU2 GU2 hzU2 BV2 B4V LV2 hV2 hU2 hU1 x0 x1 x2 x3 x4 y0 y1 y2 y3 y4 hp
      go_wp2_with fail
      rw [← unhide HV2]
      refine CM2.mono ?_
      rintro e w5 h5
      obtain ⟨qa, qb, qc, qd, r1, r2, r3, r4, qia, qib, qic, qid, qv, qb0, qn, rfl, R6, -, -, ⟨qt1, qt2, qt3, rfl⟩, B5⟩ := h5.ret
      have R7 := (unhide R5).below B5
      have Y6 := box_below (unhide Y5) B5
      have hp6 : p4 < w5.heap.size := (Array.getElem?_eq_some_iff.1 Y6).1
      obtain rfl : jn = qn := G.errIs_turned R7.1 R6.1
      have BB6 := below_trans' (unhide BB5) B5
      by_cases h0 : jn = 0
      · subst h0
        obtain ⟨rfl, S7⟩ := R7.2 rfl
        obtain ⟨rfl, S6⟩ := R6.2 rfl
        have hG := R7.1.good rfl
        rw [← G.turned_out hG.unl] at S6
        obtain ⟨s1, hs1⟩ : ∃ s1, G.out true (G.left [(s, so), (t, tso)] [x, y]) = s1 := ⟨_, rfl⟩
        rw [hs1] at S6 S7
        obtain ⟨rfl, rfl, rfl, rfl⟩ := S7.lens11
        obtain ⟨rfl, rfl, rfl, rfl⟩ := S6.lens11
        obtain ⟨U3, hU3⟩ : ∃ U3, U3 = w5.alloc (.cells #[.slice qa s1.ids.length qia, .slice qb s1.keys.length qib, .slice qc s1.lens.length qic, .slice qd s1.ts.length qid, .bool true] 30) := ⟨_, rfl⟩
        have BU3 : Below w5.heap.size w5 U3 := by rw [hU3]; exact below_alloc _ _
        have CS := segSame_any ja jb jc jd jia jib jic jid s1 true qa qb qc qd qia qib qic qid U3 (S7.below BU3) (S6.below BU3)
        have BB7 := hide (below_trans' BB6 BU3)
        have HU3 := hide hU3
        have y0 := box_cell Y6 (j := 0) rfl
        have y1 := box_cell Y6 (j := 1) rfl
        have y2 := box_cell Y6 (j := 2) rfl
        have y3 := box_cell Y6 (j := 3) rfl
        have y4 := box_cell Y6 (j := 4) rfl
        clear CM2 h5 R6 R7 S6 S7 hG BU3 hU3 Y6 hs1 BB6 B5 z0 z1 z2 z3 z4 v0 v1 v2 v3 v4
        go_wp2_with fail
        rw [← unhide HU3]
        refine CS.mono ?_
        rintro e w6 ⟨rfl, B6⟩
        have BB8 := hide (below_trans' (unhide BB7) B6)
        clear CS B6 y0 y1 y2 y3 y4
        go_wp2
        go_ret
        exact ⟨rfl, unhide BB8⟩
      · have h0' : (jn != 0) = true := by simpa using h0
        have h1' : (jn == jn) = true := by simp
        have BB7 := hide (below_all BB6 (.cells #[.slice qa r1 qia, .slice qb r2 qib, .slice qc r3 qic, .slice qd r4 qid, .bool qb0] 30))
        clear CM2 h5 R6 R7 Y6 BB6 B5 z0 z1 z2 z3 z4 v0 v1 v2 v3 v4
        go_wp2
        go_ret
        exact ⟨rfl, unhide BB7⟩
end Go.Proofs.YtnahjaloodeicaaGreat
