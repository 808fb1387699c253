/-
  MergeTables: the law's own walk.
-/
import Derived.Test.YtnahjaloodeicaaGreatM30
import Derived.Test.YtnahjaloodeicaaGreatMergeTablesUptoOpenU11
namespace Go.Proofs.YtnahjaloodeicaaGreat
set_option maxRecDepth 100000
open Go.RowKit Go.Deep

theorem Bulky.big {l : List G.Sq} (h : Bulky l 1048576) : Big l := fun s hs => ⟨(h.2 s hs).1, by have := (h.2 s hs).2; omega⟩
theorem Bulky.left {l : List G.Sq} {ls : List (List Bool)} (h : Bulky l 1048576) (hR : G.Right l ls) : (G.left l ls).length ≤ 4294967295 := by
  have := G.left_le hR
  have := h.1
  omega

/-- How often each place was got. -/
def cntM (N : Nat) (l : List Int) : List Int := (List.range N).map fun j : Nat => (l.count (j : Int) : Int)
theorem cntM_len (N : Nat) (l : List Int) : (cntM N l).length = N := by simp [cntM]
theorem cntM_at {N : Nat} {l : List Int} {j : Nat} (h : j < N) : (cntM N l)[j]? = some (l.count (j : Int) : Int) := by simp [cntM, h]
theorem cntM_dead (N : Nat) (l : List Int) : cntM N (l ++ [-1]) = cntM N l := by
  unfold cntM
  refine List.map_congr_left fun j _ => ?_
  rw [List.count_append]
  have : List.count (j : Int) [-1] = 0 := by
    rw [List.count_eq_zero]
    simp
  simp [this]
theorem cntM_live {N : Nat} (l : List Int) {n : Nat} (_ : n < N) : cntM N (l ++ [(n : Int)]) = (cntM N l).set n ((l.count (n : Int) : Int) + 1) := by
  refine List.ext_getElem? fun j => ?_
  by_cases hj : j < N
  · rw [cntM_at hj]
    by_cases e : n = j
    · subst e
      rw [List.getElem?_set_self (by rw [cntM_len]; exact hj), List.count_append]
      simp
    · rw [List.getElem?_set_ne e, cntM_at hj, List.count_append]
      have : List.count (j : Int) [(n : Int)] = 0 := by
        rw [List.count_eq_zero]
        simp
        omega
      simp [this]
  · rw [List.getElem?_eq_none (by rw [cntM_len]; omega), List.getElem?_eq_none (by rw [List.length_set, cntM_len]; omega)]
theorem cntM_nil (N : Nat) : cntM N [] = List.replicate N 0 := by
  rw [List.eq_replicate_iff]
  exact ⟨cntM_len _ _, fun b hb => by
    unfold cntM at hb
    simp at hb
    exact hb.2.symm ▸ rfl⟩

theorem seen_le (T : List (List Int)) (i k : Nat) (x : Int) : (G.seen T i k).count x ≤ T.flatten.count x := by
  refine List.Sublist.count_le x ?_
  unfold G.seen
  have e : T.flatten = (T.take i).flatten ++ (T.drop i).flatten := by rw [← List.flatten_append, List.take_append_drop]
  rw [e]
  refine List.Sublist.append (List.Sublist.refl _) ?_
  by_cases h : i < T.length
  · rw [List.getElem?_eq_getElem h, List.drop_eq_getElem_cons h, Option.getD_some, List.flatten_cons]
    exact (List.take_sublist _ _).trans (List.sublist_append_left _ _)
  · rw [List.getElem?_eq_none (by omega)]
    simp

/-- An entry of a table, as it stands there. -/
theorem tab_entry {l : List G.Sq} {ls : List (List Bool)} (h : G.Good l ls) (so : Bool) {i k : Nat} {t : List Int} (ht : (G.tabs (G.out so (G.left l ls)).ids l ls)[i]? = some t) (hk : k < t.length) :
    ∃ a b, ls[i]? = some a ∧ k < a.length ∧ a[k]? = some b ∧ ((b = false ∧ t[k]? = some (-1)) ∨ (b = true ∧ ∃ n : Nat, t[k]? = some (n : Int) ∧ n < (G.out so (G.left l ls)).ids.length)) := by
  have hi : i < l.length := by have := (List.getElem?_eq_some_iff.1 ht).1; rwa [G.tabs_len _ h.right.1] at this
  have h1 : l[i]? = some l[i] := List.getElem?_eq_getElem hi
  have h2 : ls[i]? = some (ls[i]'(by have := h.right.1; omega)) := List.getElem?_eq_getElem _
  obtain ⟨hM, hal⟩ := h.right.2 i _ _ h1 h2
  have e := G.tabs_at (G.out so (G.left l ls)).ids h1 h2
  rw [ht] at e
  have e := Option.some.inj e
  rw [e, G.tab_len _ (by rw [S.crd_len]; exact hal), S.crd_len] at hk
  have h3 := S.crd_get hk
  have h4 : (ls[i]'(by have := h.right.1; omega))[k]? = some ((ls[i]'(by have := h.right.1; omega))[k]'(by omega)) := List.getElem?_eq_getElem _
  obtain ⟨t', g1, -, g2, g3⟩ := h.entry so h1 h2 h3 h4
  rw [ht] at g1
  have g1 := Option.some.inj g1
  rw [← g1] at g2 g3
  refine ⟨_, _, h2, by omega, h4, ?_⟩
  cases hb : (ls[i]'(by have := h.right.1; omega))[k]'(by omega) with
  | false => exact .inl ⟨rfl, g2 hb⟩
  | true =>
    obtain ⟨n, q1, q2, -⟩ := g3 hb
    exact .inr ⟨rfl, n, q1, q2⟩

set_option linter.unusedSimpArgs false in
set_option maxRecDepth 100000 in
set_option maxHeartbeats 8000000 in
theorem mergeTables_walk (v u : Value) (l : List G.Sq) (ls : List (List Bool)) (so : Bool) (w : World) (hl : Gs w v l) (hb : Bll w u ls) (hB : Bulky l 1048576) :
    Calls Tryz.prog 7 #[v, u, .bool so] w fun e w' => e = .returned (.bool true) ∧ Below w.heap.size w w' := by
  have CA := awakeM_any w
  have HG := hide hl
  have HB := hide hb
  obtain ⟨a, cap, rfl, -⟩ := hl.open
  obtain ⟨a2, cap2, rfl, -⟩ := hb.at
  have HBK := hide hB
  clear hl hb hB
  go_enter Tryz.func7, Tryz.ntmps7
  go_wp2_with fail
  refine CA.mono ?_
  rintro e w1 ⟨rfl, B1⟩
  have CF := fewM_any _ _ l ls w1 ((unhide HG).below B1) ((unhide HB).below B1)
  clear CA
  go_wp2_with fail
  refine CF.mono ?_
  rintro e w2 ⟨r1, rfl, hr1, B2⟩
  have BB2 := below_trans' B1 B2
  have CM := mergeM_any _ _ l ls so w2 ((unhide HG).below BB2) ((unhide HB).below BB2) (unhide HBK).big (by have := (unhide HBK).1; omega) (unhide HBK).left
  clear CF B1 B2 hr1
  go_wp2_with fail
  refine CM.mono ?_
  rintro e w3 h3
  obtain ⟨ja, jb, jc, jd, m1, m2, m3, m4, jia, jib, jic, jid, jv, jb0, jn, rfl, R3, T3, -, ⟨t1, t2, t3, rfl⟩, B3⟩ := h3.ret
  have BB3 := below_trans' BB2 B3
  clear CM h3 B3 BB2
  obtain ⟨w4, hw4⟩ : ∃ w4, w4 = w3.alloc (.cells #[.slice ja m1 jia, .slice jb m2 jib, .slice jc m3 jic, .slice jd m4 jid, .bool jb0] 30) := ⟨_, rfl⟩
  have B4 : Below w3.heap.size w3 w4 := by rw [hw4]; exact below_alloc _ _
  have BB4 := below_trans' BB3 B4
  have HBB4 := hide BB4
  have HW4 := hide hw4
  by_cases h0 : jn = 0
  · subst h0
    cases r1 with
    | false =>
      clear R3 T3 B4 BB3 hw4 BB4
      go_wp2
      go_ret
      rw [← unhide HW4]
      exact ⟨rfl, unhide HBB4⟩
    | true =>
      have hG := R3.1.good rfl
      obtain ⟨hb0, S3⟩ := R3.2 rfl
      obtain ⟨s, hs⟩ : ∃ s, G.out so (G.left l ls) = s := ⟨_, rfl⟩
      have TL := (T3 rfl).tl
      have hN64 : s.ids.length ≤ 64 := by
        have := hG.len
        rw [← hs]
        show ((G.ord so (G.left l ls)).map (·.id)).length ≤ 64
        rw [List.length_map, (G.ord_perm so _).length_eq]
        exact this
      have honce : ∀ j, j < s.ids.length → (G.tabs s.ids l ls).flatten.count (j : Int) = 1 := fun j hj => by rw [← hs]; exact hG.once so (by rw [hs]; exact hj)
      have hent : ∀ (i k : Nat) (t : List Int), (G.tabs s.ids l ls)[i]? = some t → k < t.length → ∃ a b, ls[i]? = some a ∧ k < a.length ∧ a[k]? = some b ∧ ((b = false ∧ t[k]? = some (-1)) ∨ (b = true ∧ ∃ n : Nat, t[k]? = some (n : Int) ∧ n < s.ids.length)) := fun i k t ht hk => by
        have := tab_entry hG so (i := i) (k := k) (t := t) (by rw [hs]; exact ht) hk
        rw [hs] at this
        exact this
      rw [hs] at S3 TL
      obtain ⟨rfl, -, -, -⟩ := S3.lens11
      obtain ⟨N, hN⟩ : ∃ N, s.ids.length = N := ⟨_, rfl⟩
      obtain ⟨T, hT⟩ : ∃ T, G.tabs s.ids l ls = T := ⟨_, rfl⟩
      rw [hT] at TL honce hent
      rw [hN] at honce hent hN64
      have HON := hide honce
      have HEN := hide hent
      have TL4 := TL.below B4
      have HTL := hide TL4
      obtain ⟨a9, c9, hv9, -, -, -⟩ := TL4.at
      simp only [Value.slice.injEq] at hv9
      obtain ⟨rfl, rfl, rfl⟩ := hv9
      have HB4 := hide ((unhide HB).below BB4)
      have X4 : w4.heap[w3.heap.size]? = some (.cells #[.slice ja s.ids.length jia, .slice jb m2 jib, .slice jc m3 jic, .slice jd m4 jid, .bool jb0] 30 (0, 0)) := by rw [hw4]; exact heap_alloc_new w3 _
      have hmk := run_make_row' (P := Tryz.prog) 27 3 (.int .i64 0) 8 Tryz.underlying27 Tryz.infoI10 rfl .i64 .i64 N (by omega) (by omega)
      rw [hN] at X4
      have x0 := box_cell X4 (j := 0) rfl
      have O0 := made_own (f := Value.int .i64) w4 3 0 N (by unfold maxLen; omega)
      have HO0 := hide O0
      have BK0 := below_alloc w4 (.cells (madeCells #[.int .i64 0] N) 3)
      have HBK0 := hide BK0
      rw [hN] at hw4 ⊢
      have HW4 := hide hw4
      clear R3 T3 TL S3 hG BB3 BB4 TL4 honce hent X4 B4 hT hN hs O0 BK0 hb0
      go_upto_region 6 with fail
      rw [← unhide HW4]
      clear HW4 hw4
      go_wp2
      go_loopw [13] (fun iv wr => ∃ i : Nat, i ≤ T.length ∧ iv = .int .i64 i ∧ wr.ownsRow w4.heap.size 3 1 (.slice (some ⟨w4.heap.size, 0, none⟩) N N) (cntM N (G.seen T i 0)).length ((cntM N (G.seen T i 0)).map (Value.int .i64)) ∧ Below w4.heap.size w4 wr) (fun iv _ => T.length - (intOf iv).toNat)
      case atStart => exact ⟨0, Nat.zero_le _, rfl, by rw [G.seen_start, cntM_nil]; exact unhide HO0, unhide HBK0⟩
      case round =>
        obtain ⟨i, hi, rfl, hown, hbel⟩ := hrel
        have HOW := hide hown
        clear hown
        by_cases hlt : i < T.length
        · obtain ⟨t, ht⟩ : ∃ t, T[i]? = some t := ⟨_, List.getElem?_eq_getElem hlt⟩
          obtain ⟨a9, c9, hv9, hl9, hm9, ho9⟩ := (unhide HTL).at
          simp only [Value.slice.injEq, true_and] at hv9
          obtain ⟨rfl, rfl⟩ := hv9
          obtain ⟨tb, toff, rfl, htb, htc⟩ := ho9 (by omega)
          obtain ⟨xa, xc, y0, gl⟩ := htc i t ht
          have Y0 := hide y0
          have HGL := hide gl
          have HT := hide ht
          have c0 := cellK10 y0 hbel
          have hb0 := hide hbel
          clear ho9 htc y0 gl ht hbel
          go_wp2
          go_loopw [14] (fun iv wr => ∃ k : Nat, k ≤ t.length ∧ iv = .int .i64 k ∧ wr.ownsRow w4.heap.size 3 1 (.slice (some ⟨w4.heap.size, 0, none⟩) N N) (cntM N (G.seen T i k)).length ((cntM N (G.seen T i k)).map (Value.int .i64)) ∧ Below w4.heap.size w4 wr) (fun iv _ => t.length - (intOf iv).toNat)
          case atStart => exact ⟨0, Nat.zero_le _, rfl, unhide HOW, unhide hb0⟩
          case round =>
            obtain ⟨k, hk, rfl, hown, hbel⟩ := hrel
            have c0 := cellK10 (unhide Y0) hbel
            by_cases hkt : k < t.length
            · obtain ⟨a, b, hla, hka, hab, hcase⟩ := unhide HEN i k t (unhide HT) hkt
              obtain ⟨a8, c8, hv8, hl8, hm8, -, ho8⟩ := ((unhide HGL).below hbel).open
              simp only [Value.slice.injEq, true_and] at hv8
              obtain ⟨rfl, rfl⟩ := hv8
              obtain ⟨ib, io, rfl, hib, hic⟩ := ho8 (by omega)
              obtain ⟨a7, c7, hv7, -, hm7, ho7⟩ := ((unhide HB4).below hbel).at
              simp only [Value.slice.injEq, true_and] at hv7
              obtain ⟨rfl, rfl⟩ := hv7
              have hil := (List.getElem?_eq_some_iff.1 hla).1
              obtain ⟨lb, loff, rfl, hlb, hlc⟩ := ho7 (by omega)
              obtain ⟨za, zc, d0, gz⟩ := hlc i a hla
              obtain ⟨a6, c6, hv6, -, hm6, -, ho6⟩ := gz.open
              simp only [Value.slice.injEq, true_and] at hv6
              obtain ⟨rfl, rfl⟩ := hv6
              obtain ⟨zb, zo, rfl, hzb, hzc⟩ := ho6 (by omega)
              have d1 := hzc k b hab
              have q3 : ¬ ((ls.length : Int) ≤ (i : Int)) := by omega
              have q4 : ¬ ((a.length : Int) ≤ (k : Int)) := by omega
              rcases hcase with ⟨rfl, htk⟩ | ⟨rfl, n, htk, hn⟩
              · have c1 := hic k _ htk
                have q2 : ¬ ((N : Int) ≤ (-1 : Int)) := by omega
                have HNX : Hid (wr.ownsRow w4.heap.size 3 1 (.slice (some ⟨w4.heap.size, 0, none⟩) N N) (cntM N (G.seen T i (k + 1))).length ((cntM N (G.seen T i (k + 1))).map (Value.int .i64))) := hide (by rw [G.seen_step (unhide HT) htk, cntM_dead]; exact hown)
                clear ho8 hic ho7 hlc ho6 hzc gz hown hla hab htk
                go_wp2
                go_roundw
                case rel => exact ⟨k + 1, by omega, by go_num, unhide HNX, hbel⟩
                case measure => simp [intOf]; omega
              · have c1 := hic k _ htk
                have q1 : ¬ ((n : Int) < (-1 : Int)) := by omega
                have q2 : ¬ ((N : Int) ≤ (n : Int)) := by omega
                have q5 : (0 : Int) ≤ (n : Int) := by omega
                have hz := own_froz hown (cntM_len N _).symm n
                have c2 := own_at hown (cntM_len N _).symm (cntM_at hn)
                have O3 := own_put hown (cntM_len N _).symm n (((G.seen T i k).count (n : Int) : Int) + 1)
                rw [← cntM_live _ hn, ← G.seen_step (unhide HT) htk] at O3
                have HNX := hide O3
                have HBX := hide (hbel.setCell (p := ⟨w4.heap.size, n, none⟩) (Nat.le_refl _) (Value.int .i64 (((G.seen T i k).count (n : Int) : Int) + 1)))
                obtain ⟨C, hC⟩ : ∃ C, (G.seen T i k).count (n : Int) = C := ⟨_, rfl⟩
                have hC1 : C ≤ 1 := by
                  have := seen_le T i k n
                  have := unhide HON n hn
                  omega
                rw [hC] at c2 HNX HBX
                clear ho8 hic ho7 hlc ho6 hzc gz hown hla hab htk O3 hC
                go_wp2
                go_roundw
                case rel => exact ⟨k + 1, by omega, by go_num, unhide HNX, unhide HBX⟩
                case measure => simp [intOf]; omega
            · have ek : k = t.length := by omega
              subst ek
              have HNX : Hid (wr.ownsRow w4.heap.size 3 1 (.slice (some ⟨w4.heap.size, 0, none⟩) N N) (cntM N (G.seen T (i + 1) 0)).length ((cntM N (G.seen T (i + 1) 0)).map (Value.int .i64))) := hide (by rw [← G.seen_table (unhide HT)]; exact hown)
              clear hown
              go_wp2
              go_roundw
              case rel => exact ⟨i + 1, by omega, by go_num, unhide HNX, hbel⟩
              case measure => simp [intOf]; omega
        · have ei : i = T.length := by omega
          subst ei
          have HNX : Hid (wr.ownsRow w4.heap.size 3 1 (.slice (some ⟨w4.heap.size, 0, none⟩) N N) (cntM N T.flatten).length ((cntM N T.flatten).map (Value.int .i64))) := hide (by rw [← G.seen_all (Nat.le_refl _)]; exact unhide HOW)
          have hb0 := hide hbel
          clear hbel HOW
          go_wp2
          go_loopw [16] (fun iv wr2 => ∃ j : Nat, j ≤ N ∧ iv = .int .i64 j ∧ wr2 = wr) (fun iv _ => N - (intOf iv).toNat)
          case atStart => exact ⟨0, Nat.zero_le _, rfl, rfl⟩
          case round =>
            obtain ⟨j, hj, rfl, rfl⟩ := hrel
            by_cases hlt : j < N
            · have c2 := own_at (unhide HNX) (cntM_len N _).symm (cntM_at hlt)
              rw [unhide HON j hlt] at c2
              go_wp2
              go_roundw
              case rel => exact ⟨j + 1, by omega, by go_num, trivial⟩
              case measure => simp [intOf]; omega
            · go_wp2
              go_ret
              exact ⟨rfl, below_trans' (unhide HBB4) (unhide hb0)⟩
  · have hne : (jn != 0) = true := by simpa using h0
    clear R3 T3 B4 BB3 hw4 BB4
    cases r1 with
    | false =>
      go_wp2
      go_ret
      rw [← unhide HW4]
      exact ⟨rfl, unhide HBB4⟩
    | true =>
      go_wp2
      go_ret
      rw [← unhide HW4]
      exact ⟨rfl, unhide HBB4⟩
end Go.Proofs.YtnahjaloodeicaaGreat
