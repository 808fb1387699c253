/-
  What is done to one file changes no other one: the walk of DiskKeeps.
-/
import Derived.Test.YtnhhmohicjgpgaaLawB
import Derived.Test.YtnhhmohicjgpgaaFits3
namespace Go.Proofs.Ytnhhmohicjgpgaa
open Go.RowKit

theorem K.keeps {kind cap : Int} {L M : List Pf} {A B : ByteArray} {z : List Int} {r : Int} {s : ByteArray} (h : K.doing kind cap L A B z = (M, r)) (hA : s ≠ A) (hB : ¬ (s = B ∧ kind = 2)) :
    K.read cap L s = K.read cap M s ∧ (((if K.may cap L = true then K.at L s else -1) = -1 ∧ (if K.may cap M = true then K.at M s else -1) = -1) ∨
      ∃ (i j : Nat) (f : Pf) (g : Pf), (if K.may cap L = true then K.at L s else -1) = i ∧ (if K.may cap M = true then K.at M s else -1) = j ∧ L[i]? = some f ∧ M[j]? = some g ∧ f.su = g.su) := by
  by_cases hr : r = 0
  · subst hr
    have hd := K.do_ok h
    have hg := K.get_same (K.may_up hd.may) (K.may_up hd.can) (s := s) (fun f hf => hd.others s f hA (fun hk e => hB ⟨e, hk⟩) hf)
    refine ⟨by rw [K.read_get hd.may, K.read_get hd.can, hg], ?_⟩
    rw [if_pos hd.may, if_pos hd.can]
    cases hx : K.find L s with
    | none =>
      left
      have hy : K.find M s = none := by
        cases hy : K.find M s with
        | none => rfl
        | some j =>
          obtain ⟨g, hg2, -⟩ := K.find_some hy
          have h1 : K.get L s = none := by simp [K.get, hx]
          have h2 : K.get M s = some g := by simp [K.get, hy, hg2]
          rw [h1, h2] at hg
          cases hg
      exact ⟨by simp [K.at, hx], by simp [K.at, hy]⟩
    | some i =>
      right
      obtain ⟨f, hf, -⟩ := K.find_some hx
      have h1 : K.get L s = some f := by simp [K.get, hx, hf]
      cases hy : K.find M s with
      | none =>
        have h2 : K.get M s = none := by simp [K.get, hy]
        rw [h1, h2] at hg
        cases hg
      | some j =>
        obtain ⟨g, hg2, -⟩ := K.find_some hy
        have h2 : K.get M s = some g := by simp [K.get, hy, hg2]
        rw [h1, h2] at hg
        cases hg
        exact ⟨i, j, f, f, by simp [K.at, hx], by simp [K.at, hy], hf, hg2, rfl⟩
  · have hM := K.do_bad h hr
    subst hM
    refine ⟨rfl, ?_⟩
    cases hm : K.may cap M with
    | false => left; simp
    | true =>
      cases hx : K.find M s with
      | none => left; simp [K.at, hx]
      | some i =>
        right
        obtain ⟨f, hf, -⟩ := K.find_some hx
        exact ⟨i, i, f, f, by simp [K.at, hx], by simp [K.at, hx], hf, hf, rfl⟩

theorem do_fits {kind cap : Int} {L M : List Pf} {A B : ByteArray} {z : List Int} {r : Int} (h : K.doing kind cap L A B z = (M, r)) (hf : Fits L) (hz : z.length ≤ 1000) (hAB : A.size ≤ 1000 ∧ B.size ≤ 1000) : Fits M := by
  by_cases hr : r = 0
  · subst hr; exact done_fits h hf hz hAB
  · rw [K.do_bad h hr]; exact hf

set_option maxHeartbeats 8000000 in
theorem diskKeeps_walk (cap kind : Int) (v dv : Value) (L : List Pf) (A B : ByteArray) (z : List Int) (s : ByteArray) (w : World) (h : Fl w v L) (hdv : Sl .u8 w dv z) (hs : s.size ≤ maxLen) :
    Calls Try.prog 6 #[.agg #[.int .i64 cap, v], .agg #[.int .i64 kind, .string A, .string B, dv], .string s] w fun e w' => e = .returned (.bool true) ∧ Below w.heap.size w w' := by
  obtain ⟨a, sc, rfl, hl, hm, hna, -⟩ := h.open
  obtain ⟨dda, ddc, rfl, -⟩ := id hdv
  obtain ⟨W, hW⟩ : ∃ W, W = ((w.alloc (.cells #[.int .i64 cap, .slice a L.length sc] 24)).alloc (.cells #[.int .i64 kind, .string A, .string B, .slice dda z.length ddc] 39)) := ⟨_, rfl⟩
  have B0 : Below w.heap.size w W := by rw [hW]; exact (below_alloc _ _).alloc (by simp) _
  have c0 : W.cell? ⟨w.heap.size, 0, none⟩ = some (.int .i64 cap) := by rw [hW]; simp [go_sem]
  have c1 : W.cell? ⟨w.heap.size, 1, none⟩ = some (.slice a L.length sc) := by rw [hW]; simp [go_sem]
  have o0 : W.cell? ⟨w.heap.size + 1, 0, none⟩ = some (.int .i64 kind) := by rw [hW]; simp [go_sem]
  have o1 : W.cell? ⟨w.heap.size + 1, 1, none⟩ = some (.string A) := by rw [hW]; simp [go_sem]
  have o2 : W.cell? ⟨w.heap.size + 1, 2, none⟩ = some (.string B) := by rw [hW]; simp [go_sem]
  have o3 : W.cell? ⟨w.heap.size + 1, 3, none⟩ = some (.slice dda z.length ddc) := by rw [hW]; simp [go_sem]
  have H := h.below B0
  have S := hdv.below B0
  have HW := hide hW
  clear hW h hdv
  cases hfew : K.few L with
  | false =>
    cases hfo : K.fewOp A B z with
    | false =>
      go_enter Try.func6, Try.ntmps6
      go_wp2_with fail
      rw [← unhide HW]
      refine (awake3_any _).mono ?_
      rintro e w1 ⟨rfl, B1⟩
      have c0 := cell_keep c0 B1
      have c1 := cell_keep c1 B1
      have o0 := cell_keep o0 B1
      have o1 := cell_keep o1 B1
      have o2 := cell_keep o2 B1
      have o3 := cell_keep o3 B1
      have H := H.below B1
      have S := S.below B1
      have BB := below_trans' B0 B1
      go_wp2_with fail
      refine (few_b _ _ _ _ H _ hfew).mono ?_
      rintro e w2 ⟨rfl, B2⟩
      have c0 := cell_keep c0 B2
      have c1 := cell_keep c1 B2
      have o0 := cell_keep o0 B2
      have o1 := cell_keep o1 B2
      have o2 := cell_keep o2 B2
      have o3 := cell_keep o3 B2
      have H := H.below B2
      have S := S.below B2
      have BB := below_trans' BB B2
      go_wp2_with fail
      refine (fewop_b _ _ _ _ _ _ S _ hfo).mono ?_
      rintro e w3 ⟨rfl, B3⟩
      have c0 := cell_keep c0 B3
      have c1 := cell_keep c1 B3
      have o0 := cell_keep o0 B3
      have o1 := cell_keep o1 B3
      have o2 := cell_keep o2 B3
      have o3 := cell_keep o3 B3
      have H := H.below B3
      have S := S.below B3
      have BB := below_trans' BB B3
      go_wp2
      go_ret
      exact ⟨rfl, BB⟩
    | true =>
      go_enter Try.func6, Try.ntmps6
      go_wp2_with fail
      rw [← unhide HW]
      refine (awake3_any _).mono ?_
      rintro e w1 ⟨rfl, B1⟩
      have c0 := cell_keep c0 B1
      have c1 := cell_keep c1 B1
      have o0 := cell_keep o0 B1
      have o1 := cell_keep o1 B1
      have o2 := cell_keep o2 B1
      have o3 := cell_keep o3 B1
      have H := H.below B1
      have S := S.below B1
      have BB := below_trans' B0 B1
      go_wp2_with fail
      refine (few_b _ _ _ _ H _ hfew).mono ?_
      rintro e w2 ⟨rfl, B2⟩
      have c0 := cell_keep c0 B2
      have c1 := cell_keep c1 B2
      have o0 := cell_keep o0 B2
      have o1 := cell_keep o1 B2
      have o2 := cell_keep o2 B2
      have o3 := cell_keep o3 B2
      have H := H.below B2
      have S := S.below B2
      have BB := below_trans' BB B2
      go_wp2_with fail
      refine (fewop_b _ _ _ _ _ _ S _ hfo).mono ?_
      rintro e w3 ⟨rfl, B3⟩
      have c0 := cell_keep c0 B3
      have c1 := cell_keep c1 B3
      have o0 := cell_keep o0 B3
      have o1 := cell_keep o1 B3
      have o2 := cell_keep o2 B3
      have o3 := cell_keep o3 B3
      have H := H.below B3
      have S := S.below B3
      have BB := below_trans' BB B3
      go_wp2
      go_ret
      exact ⟨rfl, BB⟩
  | true =>
    cases hfo : K.fewOp A B z with
    | false =>
      go_enter Try.func6, Try.ntmps6
      go_wp2_with fail
      rw [← unhide HW]
      refine (awake3_any _).mono ?_
      rintro e w1 ⟨rfl, B1⟩
      have c0 := cell_keep c0 B1
      have c1 := cell_keep c1 B1
      have o0 := cell_keep o0 B1
      have o1 := cell_keep o1 B1
      have o2 := cell_keep o2 B1
      have o3 := cell_keep o3 B1
      have H := H.below B1
      have S := S.below B1
      have BB := below_trans' B0 B1
      go_wp2_with fail
      refine (few_b _ _ _ _ H _ hfew).mono ?_
      rintro e w2 ⟨rfl, B2⟩
      have c0 := cell_keep c0 B2
      have c1 := cell_keep c1 B2
      have o0 := cell_keep o0 B2
      have o1 := cell_keep o1 B2
      have o2 := cell_keep o2 B2
      have o3 := cell_keep o3 B2
      have H := H.below B2
      have S := S.below B2
      have BB := below_trans' BB B2
      go_wp2_with fail
      refine (fewop_b _ _ _ _ _ _ S _ hfo).mono ?_
      rintro e w3 ⟨rfl, B3⟩
      have c0 := cell_keep c0 B3
      have c1 := cell_keep c1 B3
      have o0 := cell_keep o0 B3
      have o1 := cell_keep o1 B3
      have o2 := cell_keep o2 B3
      have o3 := cell_keep o3 B3
      have H := H.below B3
      have S := S.below B3
      have BB := below_trans' BB B3
      go_wp2
      go_ret
      exact ⟨rfl, BB⟩
    | true =>
      have hf := K.few_fits hfew
      obtain ⟨fz, fA, fB⟩ := fewop_len hfo
      have qA := @K.eq_to s A
      by_cases hA : s = A
      · have hA' : (s.toList == A.toList) = true := by rw [qA]; simpa using hA
        clear qA hA
        go_enter Try.func6, Try.ntmps6
        go_wp2_with fail
        rw [← unhide HW]
        refine (awake3_any _).mono ?_
        rintro e w1 ⟨rfl, B1⟩
        have c0 := cell_keep c0 B1
        have c1 := cell_keep c1 B1
        have o0 := cell_keep o0 B1
        have o1 := cell_keep o1 B1
        have o2 := cell_keep o2 B1
        have o3 := cell_keep o3 B1
        have H := H.below B1
        have S := S.below B1
        have BB := below_trans' B0 B1
        go_wp2_with fail
        refine (few_b _ _ _ _ H _ hfew).mono ?_
        rintro e w2 ⟨rfl, B2⟩
        have c0 := cell_keep c0 B2
        have c1 := cell_keep c1 B2
        have o0 := cell_keep o0 B2
        have o1 := cell_keep o1 B2
        have o2 := cell_keep o2 B2
        have o3 := cell_keep o3 B2
        have H := H.below B2
        have S := S.below B2
        have BB := below_trans' BB B2
        go_wp2_with fail
        refine (fewop_b _ _ _ _ _ _ S _ hfo).mono ?_
        rintro e w3 ⟨rfl, B3⟩
        have c0 := cell_keep c0 B3
        have c1 := cell_keep c1 B3
        have o0 := cell_keep o0 B3
        have o1 := cell_keep o1 B3
        have o2 := cell_keep o2 B3
        have o3 := cell_keep o3 B3
        have H := H.below B3
        have S := S.below B3
        have BB := below_trans' BB B3
        go_wp2
        go_ret
        exact ⟨rfl, BB⟩
      · have hA' : (s.toList == A.toList) = false := by rw [qA]; simpa using hA
        have qB := @K.eq_to s B
        by_cases hB : s = B ∧ kind = 2
        · have hB' : (s.toList == B.toList) = true := by rw [qB]; simpa using hB.1
          have hk' : (kind == 2) = true := by simp [hB.2]
          clear qA qB hA hB
          go_enter Try.func6, Try.ntmps6
          go_wp2_with fail
          rw [← unhide HW]
          refine (awake3_any _).mono ?_
          rintro e w1 ⟨rfl, B1⟩
          have c0 := cell_keep c0 B1
          have c1 := cell_keep c1 B1
          have o0 := cell_keep o0 B1
          have o1 := cell_keep o1 B1
          have o2 := cell_keep o2 B1
          have o3 := cell_keep o3 B1
          have H := H.below B1
          have S := S.below B1
          have BB := below_trans' B0 B1
          go_wp2_with fail
          refine (few_b _ _ _ _ H _ hfew).mono ?_
          rintro e w2 ⟨rfl, B2⟩
          have c0 := cell_keep c0 B2
          have c1 := cell_keep c1 B2
          have o0 := cell_keep o0 B2
          have o1 := cell_keep o1 B2
          have o2 := cell_keep o2 B2
          have o3 := cell_keep o3 B2
          have H := H.below B2
          have S := S.below B2
          have BB := below_trans' BB B2
          go_wp2_with fail
          refine (fewop_b _ _ _ _ _ _ S _ hfo).mono ?_
          rintro e w3 ⟨rfl, B3⟩
          have c0 := cell_keep c0 B3
          have c1 := cell_keep c1 B3
          have o0 := cell_keep o0 B3
          have o1 := cell_keep o1 B3
          have o2 := cell_keep o2 B3
          have o3 := cell_keep o3 B3
          have H := H.below B3
          have S := S.below B3
          have BB := below_trans' BB B3
          go_wp2
          go_ret
          exact ⟨rfl, BB⟩
        · by_cases hsB : s = B
          · have hB' : (s.toList == B.toList) = true := by rw [qB]; simpa using hsB
            have hk' : (kind == 2) = false := by simpa [hsB] using hB
            obtain ⟨M, r, hr⟩ : ∃ M r, K.doing kind cap L A B z = (M, r) := ⟨_, _, rfl⟩
            have hfM := do_fits hr hf (by omega) (by omega)
            obtain ⟨hrd, hix⟩ := K.keeps hr hA hB
            obtain ⟨Z, e, hZ⟩ : ∃ Z e, K.read cap L s = (Z, e) := ⟨_, _, rfl⟩
            have hZ2 : K.read cap M s = (Z, e) := by rw [← hrd, hZ]
            have HR := hide hr
            have HZ := hide hZ
            have HZ2 := hide hZ2
            clear hr hZ hZ2 hrd qA qB hA hB hsB
            rcases hix with ⟨hi, hj⟩ | ⟨i, j, f, g, hi, hj, hfi, hgj, hsu⟩
            · have HI := hide hi
              have HJ := hide hj
              clear hi hj
              go_enter Try.func6, Try.ntmps6
              go_wp2_with fail
              rw [← unhide HW]
              refine (awake3_any _).mono ?_
              rintro e w1 ⟨rfl, B1⟩
              have c0 := cell_keep c0 B1
              have c1 := cell_keep c1 B1
              have o0 := cell_keep o0 B1
              have o1 := cell_keep o1 B1
              have o2 := cell_keep o2 B1
              have o3 := cell_keep o3 B1
              have H := H.below B1
              have S := S.below B1
              have BB := below_trans' B0 B1
              go_wp2_with fail
              refine (few_b _ _ _ _ H _ hfew).mono ?_
              rintro e w2 ⟨rfl, B2⟩
              have c0 := cell_keep c0 B2
              have c1 := cell_keep c1 B2
              have o0 := cell_keep o0 B2
              have o1 := cell_keep o1 B2
              have o2 := cell_keep o2 B2
              have o3 := cell_keep o3 B2
              have H := H.below B2
              have S := S.below B2
              have BB := below_trans' BB B2
              go_wp2_with fail
              refine (fewop_b _ _ _ _ _ _ S _ hfo).mono ?_
              rintro e w3 ⟨rfl, B3⟩
              have c0 := cell_keep c0 B3
              have c1 := cell_keep c1 B3
              have o0 := cell_keep o0 B3
              have o1 := cell_keep o1 B3
              have o2 := cell_keep o2 B3
              have o3 := cell_keep o3 B3
              have H := H.below B3
              have S := S.below B3
              have BB := below_trans' BB B3
              go_wp2_with fail
              refine (do_b _ _ _ _ _ _ _ _ _ H S (by omega) (len_of_size fA (by omega)) (len_of_size fB (by omega)) hf _ _ (unhide HR)).mono ?_
              rintro e w4 ⟨v4, rfl, F4, B4⟩
              have c0 := cell_keep c0 B4
              have c1 := cell_keep c1 B4
              have o0 := cell_keep o0 B4
              have o1 := cell_keep o1 B4
              have o2 := cell_keep o2 B4
              have o3 := cell_keep o3 B4
              have H := H.below B4
              have S := S.below B4
              have BB := below_trans' BB B4
              obtain ⟨xa, xc, rfl, -⟩ := id F4
              have hz0c0 : w.heap.size < w4.heap.size := World.block_lt_of_cell? _ _ c0
              have hz1o0 : w.heap.size + 1 < w4.heap.size := World.block_lt_of_cell? _ _ o0
              obtain ⟨W4, hW4⟩ : ∃ W, W = w4.alloc (.cells #[.int .i64 cap, .slice xa M.length xc] 24) := ⟨_, rfl⟩
              have BX4 : Below w4.heap.size w4 W4 := by rw [hW4]; exact below_alloc _ _
              have x0 : W4.cell? ⟨w4.heap.size, 0, none⟩ = some (.int .i64 cap) := by rw [hW4]; simp
              have x1 : W4.cell? ⟨w4.heap.size, 1, none⟩ = some (.slice xa M.length xc) := by rw [hW4]; simp
              have HW4 := hide hW4
              clear hW4
              have H := H.below BX4
              have F4 := F4.below BX4
              have BB := below_trans' BB BX4
              go_wp2_with fail
              rw [← unhide HW4]
              refine (read_b3 _ _ L s _ H hf hs _ _ (unhide HZ)).mono ?_
              rintro e w5 ⟨v5, rfl, S5, B5⟩
              have c0 := cell_keep (cell_keep c0 BX4) B5
              have c1 := cell_keep (cell_keep c1 BX4) B5
              have x0 := cell_keep x0 B5
              have x1 := cell_keep x1 B5
              have H := H.below B5
              have F4 := F4.below B5
              have BB := below_trans' BB B5
              obtain ⟨za, zc, rfl, -⟩ := id S5
              go_wp2_with fail
              refine (read_b3 _ _ M s _ F4 hfM hs _ _ (unhide HZ2)).mono ?_
              rintro e w6 ⟨v6, rfl, S6, B6⟩
              have c0 := cell_keep c0 B6
              have c1 := cell_keep c1 B6
              have x0 := cell_keep x0 B6
              have x1 := cell_keep x1 B6
              have H := H.below B6
              have F4 := F4.below B6
              have S5 := S5.below B6
              have BB := below_trans' BB B6
              obtain ⟨ya, yc, rfl, -⟩ := id S6
              go_wp2_with fail
              refine (bytes_b _ _ _ _ _ S5 S6 true (by simp)).mono ?_
              rintro e w7 ⟨rfl, B7⟩
              have c0 := cell_keep c0 B7
              have c1 := cell_keep c1 B7
              have x0 := cell_keep x0 B7
              have x1 := cell_keep x1 B7
              have H := H.below B7
              have F4 := F4.below B7
              have BB := below_trans' BB B7
              go_wp2_with fail
              refine (find_b _ _ L s _ H hf hs _ (unhide HI)).mono ?_
              rintro e w8 ⟨rfl, B8⟩
              have c0 := cell_keep c0 B8
              have c1 := cell_keep c1 B8
              have x0 := cell_keep x0 B8
              have x1 := cell_keep x1 B8
              have H := H.below B8
              have F4 := F4.below B8
              have BB := below_trans' BB B8
              go_wp2_with fail
              refine (find_b _ _ M s _ F4 hfM hs _ (unhide HJ)).mono ?_
              rintro e w9 ⟨rfl, B9⟩
              have c0 := cell_keep c0 B9
              have c1 := cell_keep c1 B9
              have x0 := cell_keep x0 B9
              have x1 := cell_keep x1 B9
              have H := H.below B9
              have F4 := F4.below B9
              have BB := below_trans' BB B9
              have hee : (e == e) = true := by simp
              go_wp2
              go_ret
              exact ⟨rfl, BB⟩
            · have HI := hide hi
              have HJ := hide hj
              have hil := (List.getElem?_eq_some_iff.1 hfi).1
              have hjl := (List.getElem?_eq_some_iff.1 hgj).1
              have i1 : (i : Int) < (L.length : Int) := by omega
              have j1 : (j : Int) < (M.length : Int) := by omega
              have HFI := hide hfi
              have HGJ := hide hgj
              have HSU := hide hsu
              clear hi hj hfi hgj hsu
              go_enter Try.func6, Try.ntmps6
              go_wp2_with fail
              rw [← unhide HW]
              refine (awake3_any _).mono ?_
              rintro e w1 ⟨rfl, B1⟩
              have c0 := cell_keep c0 B1
              have c1 := cell_keep c1 B1
              have o0 := cell_keep o0 B1
              have o1 := cell_keep o1 B1
              have o2 := cell_keep o2 B1
              have o3 := cell_keep o3 B1
              have H := H.below B1
              have S := S.below B1
              have BB := below_trans' B0 B1
              go_wp2_with fail
              refine (few_b _ _ _ _ H _ hfew).mono ?_
              rintro e w2 ⟨rfl, B2⟩
              have c0 := cell_keep c0 B2
              have c1 := cell_keep c1 B2
              have o0 := cell_keep o0 B2
              have o1 := cell_keep o1 B2
              have o2 := cell_keep o2 B2
              have o3 := cell_keep o3 B2
              have H := H.below B2
              have S := S.below B2
              have BB := below_trans' BB B2
              go_wp2_with fail
              refine (fewop_b _ _ _ _ _ _ S _ hfo).mono ?_
              rintro e w3 ⟨rfl, B3⟩
              have c0 := cell_keep c0 B3
              have c1 := cell_keep c1 B3
              have o0 := cell_keep o0 B3
              have o1 := cell_keep o1 B3
              have o2 := cell_keep o2 B3
              have o3 := cell_keep o3 B3
              have H := H.below B3
              have S := S.below B3
              have BB := below_trans' BB B3
              go_wp2_with fail
              refine (do_b _ _ _ _ _ _ _ _ _ H S (by omega) (len_of_size fA (by omega)) (len_of_size fB (by omega)) hf _ _ (unhide HR)).mono ?_
              rintro e w4 ⟨v4, rfl, F4, B4⟩
              have c0 := cell_keep c0 B4
              have c1 := cell_keep c1 B4
              have o0 := cell_keep o0 B4
              have o1 := cell_keep o1 B4
              have o2 := cell_keep o2 B4
              have o3 := cell_keep o3 B4
              have H := H.below B4
              have S := S.below B4
              have BB := below_trans' BB B4
              obtain ⟨xa, xc, rfl, -⟩ := id F4
              have hz0c0 : w.heap.size < w4.heap.size := World.block_lt_of_cell? _ _ c0
              have hz1o0 : w.heap.size + 1 < w4.heap.size := World.block_lt_of_cell? _ _ o0
              obtain ⟨W4, hW4⟩ : ∃ W, W = w4.alloc (.cells #[.int .i64 cap, .slice xa M.length xc] 24) := ⟨_, rfl⟩
              have BX4 : Below w4.heap.size w4 W4 := by rw [hW4]; exact below_alloc _ _
              have x0 : W4.cell? ⟨w4.heap.size, 0, none⟩ = some (.int .i64 cap) := by rw [hW4]; simp
              have x1 : W4.cell? ⟨w4.heap.size, 1, none⟩ = some (.slice xa M.length xc) := by rw [hW4]; simp
              have HW4 := hide hW4
              clear hW4
              have H := H.below BX4
              have F4 := F4.below BX4
              have BB := below_trans' BB BX4
              go_wp2_with fail
              rw [← unhide HW4]
              refine (read_b3 _ _ L s _ H hf hs _ _ (unhide HZ)).mono ?_
              rintro e w5 ⟨v5, rfl, S5, B5⟩
              have c0 := cell_keep (cell_keep c0 BX4) B5
              have c1 := cell_keep (cell_keep c1 BX4) B5
              have x0 := cell_keep x0 B5
              have x1 := cell_keep x1 B5
              have H := H.below B5
              have F4 := F4.below B5
              have BB := below_trans' BB B5
              obtain ⟨za, zc, rfl, -⟩ := id S5
              go_wp2_with fail
              refine (read_b3 _ _ M s _ F4 hfM hs _ _ (unhide HZ2)).mono ?_
              rintro e w6 ⟨v6, rfl, S6, B6⟩
              have c0 := cell_keep c0 B6
              have c1 := cell_keep c1 B6
              have x0 := cell_keep x0 B6
              have x1 := cell_keep x1 B6
              have H := H.below B6
              have F4 := F4.below B6
              have S5 := S5.below B6
              have BB := below_trans' BB B6
              obtain ⟨ya, yc, rfl, -⟩ := id S6
              go_wp2_with fail
              refine (bytes_b _ _ _ _ _ S5 S6 true (by simp)).mono ?_
              rintro e w7 ⟨rfl, B7⟩
              have c0 := cell_keep c0 B7
              have c1 := cell_keep c1 B7
              have x0 := cell_keep x0 B7
              have x1 := cell_keep x1 B7
              have H := H.below B7
              have F4 := F4.below B7
              have BB := below_trans' BB B7
              go_wp2_with fail
              refine (find_b _ _ L s _ H hf hs _ (unhide HI)).mono ?_
              rintro e w8 ⟨rfl, B8⟩
              have c0 := cell_keep c0 B8
              have c1 := cell_keep c1 B8
              have x0 := cell_keep x0 B8
              have x1 := cell_keep x1 B8
              have H := H.below B8
              have F4 := F4.below B8
              have BB := below_trans' BB B8
              go_wp2_with fail
              refine (find_b _ _ M s _ F4 hfM hs _ (unhide HJ)).mono ?_
              rintro e w9 ⟨rfl, B9⟩
              have c0 := cell_keep c0 B9
              have c1 := cell_keep c1 B9
              have x0 := cell_keep x0 B9
              have x1 := cell_keep x1 B9
              have H := H.below B9
              have F4 := F4.below B9
              have BB := below_trans' BB B9
              have hee : (e == e) = true := by simp
              obtain ⟨a', sc', hv', -, -, -, ho⟩ := H.open
              simp only [Value.slice.injEq, true_and] at hv'
              obtain ⟨rfl, rfl⟩ := hv'
              obtain ⟨b1, f1, rfl, hb1, hc1⟩ := ho (by omega)
              obtain ⟨da, dc, -, -, u2, -⟩ := hc1 i f (unhide HFI)
              obtain ⟨a'', sc'', hv'', -, -, -, ho2⟩ := F4.open
              simp only [Value.slice.injEq, true_and] at hv''
              obtain ⟨rfl, rfl⟩ := hv''
              obtain ⟨b2, f2, rfl, hb2, hc2⟩ := ho2 (by omega)
              obtain ⟨ea, ec, -, -, u3, -⟩ := hc2 j g (unhide HGJ)
              rw [← unhide HSU] at u3
              obtain ⟨su, hsu⟩ : ∃ su, su = f.su := ⟨_, rfl⟩
              rw [← hsu] at u2 u3
              have hss : (su == su) = true := by simp
              clear hsu ho ho2 hc1 hc2
              go_wp2
              go_quiet (fail)
              go_wp2
              go_ret
              exact ⟨rfl, below_dr BB _⟩
          · have hB' : (s.toList == B.toList) = false := by rw [qB]; simpa using hsB
            obtain ⟨M, r, hr⟩ : ∃ M r, K.doing kind cap L A B z = (M, r) := ⟨_, _, rfl⟩
            have hfM := do_fits hr hf (by omega) (by omega)
            obtain ⟨hrd, hix⟩ := K.keeps hr hA hB
            obtain ⟨Z, e, hZ⟩ : ∃ Z e, K.read cap L s = (Z, e) := ⟨_, _, rfl⟩
            have hZ2 : K.read cap M s = (Z, e) := by rw [← hrd, hZ]
            have HR := hide hr
            have HZ := hide hZ
            have HZ2 := hide hZ2
            clear hr hZ hZ2 hrd qA qB hA hB hsB
            rcases hix with ⟨hi, hj⟩ | ⟨i, j, f, g, hi, hj, hfi, hgj, hsu⟩
            · have HI := hide hi
              have HJ := hide hj
              clear hi hj
              go_enter Try.func6, Try.ntmps6
              go_wp2_with fail
              rw [← unhide HW]
              refine (awake3_any _).mono ?_
              rintro e w1 ⟨rfl, B1⟩
              have c0 := cell_keep c0 B1
              have c1 := cell_keep c1 B1
              have o0 := cell_keep o0 B1
              have o1 := cell_keep o1 B1
              have o2 := cell_keep o2 B1
              have o3 := cell_keep o3 B1
              have H := H.below B1
              have S := S.below B1
              have BB := below_trans' B0 B1
              go_wp2_with fail
              refine (few_b _ _ _ _ H _ hfew).mono ?_
              rintro e w2 ⟨rfl, B2⟩
              have c0 := cell_keep c0 B2
              have c1 := cell_keep c1 B2
              have o0 := cell_keep o0 B2
              have o1 := cell_keep o1 B2
              have o2 := cell_keep o2 B2
              have o3 := cell_keep o3 B2
              have H := H.below B2
              have S := S.below B2
              have BB := below_trans' BB B2
              go_wp2_with fail
              refine (fewop_b _ _ _ _ _ _ S _ hfo).mono ?_
              rintro e w3 ⟨rfl, B3⟩
              have c0 := cell_keep c0 B3
              have c1 := cell_keep c1 B3
              have o0 := cell_keep o0 B3
              have o1 := cell_keep o1 B3
              have o2 := cell_keep o2 B3
              have o3 := cell_keep o3 B3
              have H := H.below B3
              have S := S.below B3
              have BB := below_trans' BB B3
              go_wp2_with fail
              refine (do_b _ _ _ _ _ _ _ _ _ H S (by omega) (len_of_size fA (by omega)) (len_of_size fB (by omega)) hf _ _ (unhide HR)).mono ?_
              rintro e w4 ⟨v4, rfl, F4, B4⟩
              have c0 := cell_keep c0 B4
              have c1 := cell_keep c1 B4
              have o0 := cell_keep o0 B4
              have o1 := cell_keep o1 B4
              have o2 := cell_keep o2 B4
              have o3 := cell_keep o3 B4
              have H := H.below B4
              have S := S.below B4
              have BB := below_trans' BB B4
              obtain ⟨xa, xc, rfl, -⟩ := id F4
              have hz0c0 : w.heap.size < w4.heap.size := World.block_lt_of_cell? _ _ c0
              have hz1o0 : w.heap.size + 1 < w4.heap.size := World.block_lt_of_cell? _ _ o0
              obtain ⟨W4, hW4⟩ : ∃ W, W = w4.alloc (.cells #[.int .i64 cap, .slice xa M.length xc] 24) := ⟨_, rfl⟩
              have BX4 : Below w4.heap.size w4 W4 := by rw [hW4]; exact below_alloc _ _
              have x0 : W4.cell? ⟨w4.heap.size, 0, none⟩ = some (.int .i64 cap) := by rw [hW4]; simp
              have x1 : W4.cell? ⟨w4.heap.size, 1, none⟩ = some (.slice xa M.length xc) := by rw [hW4]; simp
              have HW4 := hide hW4
              clear hW4
              have H := H.below BX4
              have F4 := F4.below BX4
              have BB := below_trans' BB BX4
              go_wp2_with fail
              rw [← unhide HW4]
              refine (read_b3 _ _ L s _ H hf hs _ _ (unhide HZ)).mono ?_
              rintro e w5 ⟨v5, rfl, S5, B5⟩
              have c0 := cell_keep (cell_keep c0 BX4) B5
              have c1 := cell_keep (cell_keep c1 BX4) B5
              have x0 := cell_keep x0 B5
              have x1 := cell_keep x1 B5
              have H := H.below B5
              have F4 := F4.below B5
              have BB := below_trans' BB B5
              obtain ⟨za, zc, rfl, -⟩ := id S5
              go_wp2_with fail
              refine (read_b3 _ _ M s _ F4 hfM hs _ _ (unhide HZ2)).mono ?_
              rintro e w6 ⟨v6, rfl, S6, B6⟩
              have c0 := cell_keep c0 B6
              have c1 := cell_keep c1 B6
              have x0 := cell_keep x0 B6
              have x1 := cell_keep x1 B6
              have H := H.below B6
              have F4 := F4.below B6
              have S5 := S5.below B6
              have BB := below_trans' BB B6
              obtain ⟨ya, yc, rfl, -⟩ := id S6
              go_wp2_with fail
              refine (bytes_b _ _ _ _ _ S5 S6 true (by simp)).mono ?_
              rintro e w7 ⟨rfl, B7⟩
              have c0 := cell_keep c0 B7
              have c1 := cell_keep c1 B7
              have x0 := cell_keep x0 B7
              have x1 := cell_keep x1 B7
              have H := H.below B7
              have F4 := F4.below B7
              have BB := below_trans' BB B7
              go_wp2_with fail
              refine (find_b _ _ L s _ H hf hs _ (unhide HI)).mono ?_
              rintro e w8 ⟨rfl, B8⟩
              have c0 := cell_keep c0 B8
              have c1 := cell_keep c1 B8
              have x0 := cell_keep x0 B8
              have x1 := cell_keep x1 B8
              have H := H.below B8
              have F4 := F4.below B8
              have BB := below_trans' BB B8
              go_wp2_with fail
              refine (find_b _ _ M s _ F4 hfM hs _ (unhide HJ)).mono ?_
              rintro e w9 ⟨rfl, B9⟩
              have c0 := cell_keep c0 B9
              have c1 := cell_keep c1 B9
              have x0 := cell_keep x0 B9
              have x1 := cell_keep x1 B9
              have H := H.below B9
              have F4 := F4.below B9
              have BB := below_trans' BB B9
              have hee : (e == e) = true := by simp
              go_wp2
              go_ret
              exact ⟨rfl, BB⟩
            · have HI := hide hi
              have HJ := hide hj
              have hil := (List.getElem?_eq_some_iff.1 hfi).1
              have hjl := (List.getElem?_eq_some_iff.1 hgj).1
              have i1 : (i : Int) < (L.length : Int) := by omega
              have j1 : (j : Int) < (M.length : Int) := by omega
              have HFI := hide hfi
              have HGJ := hide hgj
              have HSU := hide hsu
              clear hi hj hfi hgj hsu
              go_enter Try.func6, Try.ntmps6
              go_wp2_with fail
              rw [← unhide HW]
              refine (awake3_any _).mono ?_
              rintro e w1 ⟨rfl, B1⟩
              have c0 := cell_keep c0 B1
              have c1 := cell_keep c1 B1
              have o0 := cell_keep o0 B1
              have o1 := cell_keep o1 B1
              have o2 := cell_keep o2 B1
              have o3 := cell_keep o3 B1
              have H := H.below B1
              have S := S.below B1
              have BB := below_trans' B0 B1
              go_wp2_with fail
              refine (few_b _ _ _ _ H _ hfew).mono ?_
              rintro e w2 ⟨rfl, B2⟩
              have c0 := cell_keep c0 B2
              have c1 := cell_keep c1 B2
              have o0 := cell_keep o0 B2
              have o1 := cell_keep o1 B2
              have o2 := cell_keep o2 B2
              have o3 := cell_keep o3 B2
              have H := H.below B2
              have S := S.below B2
              have BB := below_trans' BB B2
              go_wp2_with fail
              refine (fewop_b _ _ _ _ _ _ S _ hfo).mono ?_
              rintro e w3 ⟨rfl, B3⟩
              have c0 := cell_keep c0 B3
              have c1 := cell_keep c1 B3
              have o0 := cell_keep o0 B3
              have o1 := cell_keep o1 B3
              have o2 := cell_keep o2 B3
              have o3 := cell_keep o3 B3
              have H := H.below B3
              have S := S.below B3
              have BB := below_trans' BB B3
              go_wp2_with fail
              refine (do_b _ _ _ _ _ _ _ _ _ H S (by omega) (len_of_size fA (by omega)) (len_of_size fB (by omega)) hf _ _ (unhide HR)).mono ?_
              rintro e w4 ⟨v4, rfl, F4, B4⟩
              have c0 := cell_keep c0 B4
              have c1 := cell_keep c1 B4
              have o0 := cell_keep o0 B4
              have o1 := cell_keep o1 B4
              have o2 := cell_keep o2 B4
              have o3 := cell_keep o3 B4
              have H := H.below B4
              have S := S.below B4
              have BB := below_trans' BB B4
              obtain ⟨xa, xc, rfl, -⟩ := id F4
              have hz0c0 : w.heap.size < w4.heap.size := World.block_lt_of_cell? _ _ c0
              have hz1o0 : w.heap.size + 1 < w4.heap.size := World.block_lt_of_cell? _ _ o0
              obtain ⟨W4, hW4⟩ : ∃ W, W = w4.alloc (.cells #[.int .i64 cap, .slice xa M.length xc] 24) := ⟨_, rfl⟩
              have BX4 : Below w4.heap.size w4 W4 := by rw [hW4]; exact below_alloc _ _
              have x0 : W4.cell? ⟨w4.heap.size, 0, none⟩ = some (.int .i64 cap) := by rw [hW4]; simp
              have x1 : W4.cell? ⟨w4.heap.size, 1, none⟩ = some (.slice xa M.length xc) := by rw [hW4]; simp
              have HW4 := hide hW4
              clear hW4
              have H := H.below BX4
              have F4 := F4.below BX4
              have BB := below_trans' BB BX4
              go_wp2_with fail
              rw [← unhide HW4]
              refine (read_b3 _ _ L s _ H hf hs _ _ (unhide HZ)).mono ?_
              rintro e w5 ⟨v5, rfl, S5, B5⟩
              have c0 := cell_keep (cell_keep c0 BX4) B5
              have c1 := cell_keep (cell_keep c1 BX4) B5
              have x0 := cell_keep x0 B5
              have x1 := cell_keep x1 B5
              have H := H.below B5
              have F4 := F4.below B5
              have BB := below_trans' BB B5
              obtain ⟨za, zc, rfl, -⟩ := id S5
              go_wp2_with fail
              refine (read_b3 _ _ M s _ F4 hfM hs _ _ (unhide HZ2)).mono ?_
              rintro e w6 ⟨v6, rfl, S6, B6⟩
              have c0 := cell_keep c0 B6
              have c1 := cell_keep c1 B6
              have x0 := cell_keep x0 B6
              have x1 := cell_keep x1 B6
              have H := H.below B6
              have F4 := F4.below B6
              have S5 := S5.below B6
              have BB := below_trans' BB B6
              obtain ⟨ya, yc, rfl, -⟩ := id S6
              go_wp2_with fail
              refine (bytes_b _ _ _ _ _ S5 S6 true (by simp)).mono ?_
              rintro e w7 ⟨rfl, B7⟩
              have c0 := cell_keep c0 B7
              have c1 := cell_keep c1 B7
              have x0 := cell_keep x0 B7
              have x1 := cell_keep x1 B7
              have H := H.below B7
              have F4 := F4.below B7
              have BB := below_trans' BB B7
              go_wp2_with fail
              refine (find_b _ _ L s _ H hf hs _ (unhide HI)).mono ?_
              rintro e w8 ⟨rfl, B8⟩
              have c0 := cell_keep c0 B8
              have c1 := cell_keep c1 B8
              have x0 := cell_keep x0 B8
              have x1 := cell_keep x1 B8
              have H := H.below B8
              have F4 := F4.below B8
              have BB := below_trans' BB B8
              go_wp2_with fail
              refine (find_b _ _ M s _ F4 hfM hs _ (unhide HJ)).mono ?_
              rintro e w9 ⟨rfl, B9⟩
              have c0 := cell_keep c0 B9
              have c1 := cell_keep c1 B9
              have x0 := cell_keep x0 B9
              have x1 := cell_keep x1 B9
              have H := H.below B9
              have F4 := F4.below B9
              have BB := below_trans' BB B9
              have hee : (e == e) = true := by simp
              obtain ⟨a', sc', hv', -, -, -, ho⟩ := H.open
              simp only [Value.slice.injEq, true_and] at hv'
              obtain ⟨rfl, rfl⟩ := hv'
              obtain ⟨b1, f1, rfl, hb1, hc1⟩ := ho (by omega)
              obtain ⟨da, dc, -, -, u2, -⟩ := hc1 i f (unhide HFI)
              obtain ⟨a'', sc'', hv'', -, -, -, ho2⟩ := F4.open
              simp only [Value.slice.injEq, true_and] at hv''
              obtain ⟨rfl, rfl⟩ := hv''
              obtain ⟨b2, f2, rfl, hb2, hc2⟩ := ho2 (by omega)
              obtain ⟨ea, ec, -, -, u3, -⟩ := hc2 j g (unhide HGJ)
              rw [← unhide HSU] at u3
              obtain ⟨su, hsu⟩ : ∃ su, su = f.su := ⟨_, rfl⟩
              rw [← hsu] at u2 u3
              have hss : (su == su) = true := by simp
              clear hsu ho ho2 hc1 hc2
              go_wp2
              go_quiet (fail)
              go_wp2
              go_ret
              exact ⟨rfl, below_dr BB _⟩
end Go.Proofs.Ytnhhmohicjgpgaa
