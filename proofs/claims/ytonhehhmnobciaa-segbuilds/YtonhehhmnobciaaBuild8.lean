/-
  The contract of Build: the segment of cards, or none.
-/
import Derived.Test.YtonhehhmnobciaaBox8
import Derived.Test.YtonhehhmnobciaaTerms8
import Derived.Test.YtonhehhmnobciaaUnlike8
import Derived.Test.YtonhehhmnobciaaSort8
import Derived.Test.YtonhehhmnobciaaClone8
namespace Go.Proofs.Ytonhehhmnobciaa
set_option maxRecDepth 100000
open Go.RowKit

namespace S
/-- The segment, whether it is sorted, and the error. -/
def build (l : List Cd) (so : Bool) : Sg × Bool × Int :=
  if mayAll l = false then (Sg.none, false, 1)
  else if 64 < l.length then (Sg.none, false, 8)
  else if D.may (words l) = false then (Sg.none, false, 8)
  else (seg (if so = true then srt l else l), so, 0)
end S

/-- What Build tells. -/
def BuildEnd (w : World) (r : Sg × Bool × Int) (e : Ending) (w' : World) : Prop :=
  ∃ iv kv lv tv, e = .returned (.tuple #[.agg #[iv, kv, lv, tv, .bool r.2.1], .int .i64 r.2.2]) ∧ Sv w' iv kv lv tv r.1 ∧ Below w.heap.size w w'

/-- The five stores into the result. -/
def five (w : World) (b : Nat) (a0 a1 a2 a3 a4 : Value) : World := ((((w.setCell ⟨b, 0, none⟩ a0).setCell ⟨b, 1, none⟩ a1).setCell ⟨b, 2, none⟩ a2).setCell ⟨b, 3, none⟩ a3).setCell ⟨b, 4, none⟩ a4
theorem five_below {w w1 : World} {b : Nat} (a0 a1 a2 a3 a4 : Value) (h : Below w.heap.size w w1) (hb : w.heap.size ≤ b) : Below w.heap.size w (five w1 b a0 a1 a2 a3 a4) :=
  ((((h.setCell hb _).setCell hb _).setCell hb _).setCell hb _).setCell hb _

theorem build_err {w w1 : World} {r : Sg × Bool × Int} {n : Int} {b : Nat} (a0 a1 a2 a3 a4 : Value) (h : Below w.heap.size w w1) (hb : w.heap.size ≤ b) (hr : r = (Sg.none, false, n)) :
    BuildEnd w r (.returned (.tuple #[.agg #[.slice none 0 0, .slice none 0 0, .slice none 0 0, .slice none 0 0, .bool false], .int .i64 n])) (five w1 b a0 a1 a2 a3 a4) := by
  subst hr
  exact ⟨_, _, _, _, rfl, Sv.none _, five_below _ _ _ _ _ h hb⟩

theorem own_five {w : World} {B b : Nat} {e : TypeId} {k n : Nat} {v : Value} {xs : List Value} (h : w.ownsRow B e k v n xs) (hb : b < B) (a0 a1 a2 a3 a4 : Value) : (five w b a0 a1 a2 a3 a4).ownsRow B e k v n xs := by
  have key : ∀ (w : World) (j : Nat) (u : Value), w.ownsRow B e k v n xs → (w.setCell ⟨b, j, none⟩ u).ownsRow B e k v n xs := fun w j u h => own_set h (fun g hg e => by have := (h.lt g hg).1; simp only at e; omega) u
  exact key _ _ _ (key _ _ _ (key _ _ _ (key _ _ _ (key _ _ _ h))))
theorem ts_five {w : World} {B b : Nat} {v : Value} {ws : List ByteArray} {l : List Cd} (h : TS B w v ws l) (hb : b < B) (a0 a1 a2 a3 a4 : Value) : TS B (five w b a0 a1 a2 a3 a4) v ws l :=
  ((((h.set (p := ⟨b, 0, none⟩) hb _).set (p := ⟨b, 1, none⟩) hb _).set (p := ⟨b, 2, none⟩) hb _).set (p := ⟨b, 3, none⟩) hb _).set (p := ⟨b, 4, none⟩) hb _

theorem build_end {w w5 wr : World} {r : Sg × Bool × Int} {LL : List Cd} {ws ids : List ByteArray} {keys lens : List Int} {vi vk vl tv : Value} {so : Bool} {B5 : Nat} (hbx : Bx w5.heap.size wr vi vk vl tv so ids keys lens) (hT : TS B5 wr tv ws LL) (hB5 : w.heap.size < B5) (hbel : Below w5.heap.size w5 wr) (BB5 : Below w.heap.size w w5)
    (hZ5 : w.heap.size < w5.heap.size) (hI : ids = LL.map (·.id)) (hK : keys = LL.map (·.key)) (hL : lens = LL.map (fun c => (c.w.length : Int))) (hr : S.words LL = ws ∧ S.seg LL = r.1 ∧ r.2.1 = so ∧ r.2.2 = 0) :
    BuildEnd w r (.returned (.tuple #[.agg #[vi, vk, vl, tv, .bool so], .int .i64 0])) (five wr w.heap.size vi vk vl tv (.bool so)) := by
  obtain ⟨h1, h2, h3, h4⟩ := hr
  refine ⟨vi, vk, vl, tv, by rw [h3, h4], ?_, five_below _ _ _ _ _ (below_trans' BB5 hbel) (Nat.le_refl _)⟩
  rw [← h2]
  refine ⟨?_, ?_, ?_, ?_⟩
  · have := Gl.owned (own_five hbx.2.1 (b := w.heap.size) (by omega) vi vk vl tv (.bool so))
    rw [hI] at this
    exact this
  · have := Sl.owned (own_five hbx.2.2.1 (b := w.heap.size) (by omega) vi vk vl tv (.bool so))
    rw [hK] at this
    exact this
  · have := Sl.owned (own_five hbx.2.2.2.1 (b := w.heap.size) (by omega) vi vk vl tv (.bool so))
    rw [hL] at this
    exact this
  · have := (ts_five hT hB5 vi vk vl tv (.bool so)).ts
    rw [← h1] at this
    exact this

set_option maxRecDepth 100000 in
set_option maxHeartbeats 4000000 in
theorem build_any (v : Value) (L : List Cd) (so : Bool) (w : World) (h : Cs w v L) (hlen : L.length ≤ 4398046511104) (r : Sg × Bool × Int) (hr : S.build L so = r) :
    Calls Try.prog 9 #[v, .bool so] w (BuildEnd w r) := by
  unfold S.build at hr
  obtain ⟨i9, hi9, hz90, hz91, hz92⟩ := info_parts Try.infoS
  obtain ⟨j0, hj, hj0, hj1, hj2⟩ := info_parts Try.info3
  obtain ⟨W, hW⟩ : ∃ W, W = w.alloc (.cells #[.slice none 0 0, .slice none 0 0, .slice none 0 0, .slice none 0 0, .bool false] 31) := ⟨_, rfl⟩
  have B0 : Below w.heap.size w W := by rw [hW]; exact below_alloc _ _
  have X0 : W.heap[w.heap.size]? = some (.cells #[.slice none 0 0, .slice none 0 0, .slice none 0 0, .slice none 0 0, .bool false] 31 (0, 0)) := by rw [hW]; exact heap_alloc_new w _
  have hZ : w.heap.size < W.heap.size := by rw [hW]; simp
  have HW := hide hW
  have H0 := h.below B0
  have hv := h
  obtain ⟨a, cap, rfl, hl, hm, hna, -⟩ := h.open
  clear hW h
  cases hma : S.mayAll L with
  | false =>
    rw [if_pos hma] at hr
    have HR := hide hr.symm
    have C1 := mayAll_b _ L W H0 hlen false hma
    clear hr hma
    go_enter Try.func9, Try.ntmps9
    go_wp2_with fail
    rw [← unhide HW]
    refine C1.mono ?_
    rintro e w1 ⟨rfl, B1⟩
    have X1 := box_below X0 B1
    have BB := below_trans' B0 B1
    have x0 := box_cell X1 (j := 0) rfl
    have x1 := box_cell X1 (j := 1) rfl
    have x2 := box_cell X1 (j := 2) rfl
    have x3 := box_cell X1 (j := 3) rfl
    have x4 := box_cell X1 (j := 4) rfl
    have f0 := bfro X1 0
    have f1 := bfro X1 1
    have f2 := bfro X1 2
    have f3 := bfro X1 3
    have f4 := bfro X1 4
    clear X1 X0 B1 C1
    go_wp2
    exact bodyPost_ret (v := .tuple #[.agg #[.slice none 0 0, .slice none 0 0, .slice none 0 0, .slice none 0 0, .bool false], .int .i64 1]) (by simp [results, Try.results9, go_sem, x0, x1, x2, x3, x4]) rfl (build_err _ _ _ _ _ BB (Nat.le_refl _) (unhide HR))
  | true =>
    rw [if_neg (by rw [hma]; decide)] at hr
    have C1 := mayAll_b _ L W H0 hlen true hma
    have hall := hma
    unfold S.mayAll at hall
    simp only [Bool.and_eq_true, decide_eq_true_eq] at hall
    obtain ⟨hfit, hnd⟩ := hall
    by_cases h64 : 64 < L.length
    · rw [if_pos h64] at hr
      have HR := hide hr.symm
      clear hr hma hfit hnd
      go_enter Try.func9, Try.ntmps9
      go_wp2_with fail
      rw [← unhide HW]
      refine C1.mono ?_
      rintro e w1 ⟨rfl, B1⟩
      have X1 := box_below X0 B1
      have BB := below_trans' B0 B1
      have x0 := box_cell X1 (j := 0) rfl
      have x1 := box_cell X1 (j := 1) rfl
      have x2 := box_cell X1 (j := 2) rfl
      have x3 := box_cell X1 (j := 3) rfl
      have x4 := box_cell X1 (j := 4) rfl
      have f0 := bfro X1 0
      have f1 := bfro X1 1
      have f2 := bfro X1 2
      have f3 := bfro X1 3
      have f4 := bfro X1 4
      clear X1 X0 B1 C1
      go_wp2
      exact bodyPost_ret (v := .tuple #[.agg #[.slice none 0 0, .slice none 0 0, .slice none 0 0, .slice none 0 0, .bool false], .int .i64 8]) (by simp [results, Try.results9, go_sem, x0, x1, x2, x3, x4]) rfl (build_err _ _ _ _ _ BB (Nat.le_refl _) (unhide HR))
    · rw [if_neg h64] at hr
      have hll : L.length ≤ 64 := by omega
      have hcw : ∀ c ∈ L, c.w.length ≤ 120 := fun c hc => by
        have := List.all_eq_true.1 hfit c hc
        simp only [S.fits, Bool.and_eq_true, decide_eq_true_eq] at this
        omega
      cases hmw : D.may (S.words L) with
      | false =>
        rw [if_pos hmw] at hr
        have HR := hide hr.symm
        have HM := hide hmw
        clear hr hma hfit hnd hmw
        go_enter Try.func9, Try.ntmps9
        go_wp2_with fail
        rw [← unhide HW]
        refine C1.mono ?_
        rintro e w1 ⟨rfl, B1⟩
        have X1 := box_below X0 B1
        have BB := below_trans' B0 B1
        have H1 := H0.below B1
        clear X0 B1 C1
        go_wp2_with fail
        refine (unlikeWords_any _ _ _ H1 hll hcw _ (unhide HM)).mono ?_
        rintro e w2 ⟨v2, rfl, G2, B2⟩
        have X2 := box_below X1 B2
        have BB2 := below_trans' BB B2
        have x0 := box_cell X2 (j := 0) rfl
        have x1 := box_cell X2 (j := 1) rfl
        have x2 := box_cell X2 (j := 2) rfl
        have x3 := box_cell X2 (j := 3) rfl
        have x4 := box_cell X2 (j := 4) rfl
        have f0 := bfro X2 0
        have f1 := bfro X2 1
        have f2 := bfro X2 2
        have f3 := bfro X2 3
        have f4 := bfro X2 4
        clear X2 X1 B2 BB G2 H1
        go_wp2
        exact bodyPost_ret (v := .tuple #[.agg #[.slice none 0 0, .slice none 0 0, .slice none 0 0, .slice none 0 0, .bool false], .int .i64 8]) (by simp [results, Try.results9, go_sem, x0, x1, x2, x3, x4]) rfl (build_err _ _ _ _ _ BB2 (Nat.le_refl _) (unhide HR))
      | true =>
        rw [if_neg (by rw [hmw]; decide)] at hr
        have HM := hide hmw
        have hri : D.Rise (S.words L) := S.words_rise L
        have hwl : (S.words L).length ≤ 200 := D.may_len hmw
        have hwz : ∀ x ∈ S.words L, x.size ≤ 32 := fun x hx => (D.may_size hmw x hx).2
        have hin : ∀ c ∈ L, ∀ x ∈ c.w, x ∈ S.words L := fun c hc x hx => S.mem_words.2 ⟨c, hc, hx⟩
        have hun : S.Unlike L := by
          have := hnd
          unfold List.Nodup at this
          rw [List.pairwise_map] at this
          exact this
        clear hma hmw
        cases so with
        | false =>
          rw [if_neg (by decide)] at hr
          have HR := hide hr.symm
          clear hr
          go_enter Try.func9, Try.ntmps9
          go_wp2_with fail
          rw [← unhide HW]
          refine C1.mono ?_
          rintro e w1 ⟨rfl, B1⟩
          have X1 := box_below X0 B1
          have BB := below_trans' B0 B1
          have H1 := H0.below B1
          have hs1 := B1.size
          clear B1
          go_wp2_with fail
          refine (unlikeWords_any _ _ _ H1 hll hcw _ (unhide HM)).mono ?_
          rintro e w2 ⟨v2, rfl, G2, B2⟩
          have X2 := box_below X1 B2
          have BB2 := below_trans' BB B2
          have H2 := H1.below B2
          have hs2 := B2.size
          clear X1 B2 BB H1
          go_wp2_with fail
          refine (terms_any _ _ _ _ _ H2 G2 hri hll hwl hcw hin hwz).mono ?_
          rintro e w5 ⟨tv, rfl, T5, B5⟩
          have X5 := box_below X2 B5
          have BB5 := below_trans' BB2 B5
          have hs5 := B5.size
          obtain ⟨tn, htn⟩ : ∃ tn, (S.words L).length = tn := ⟨_, rfl⟩
          obtain ⟨ta, tc, htv, -⟩ := id T5.ts.open
          rw [List.length_map, htn] at htv
          subst htv
          have HNI : Hid ((S.words L = S.words L) ∧ S.seg L = r.1 ∧ r.2.1 = false ∧ r.2.2 = 0) := by
            show _ ∧ _
            rw [unhide HR]; exact ⟨rfl, rfl, rfl, rfl⟩
          have hLL : L.length ≤ 64 := hll
          have hZ5 : w.heap.size < w5.heap.size := by omega
          have hB5 : w.heap.size < w2.heap.size + 1 := by omega
          obtain ⟨a', cap', hv', -, -, -, hoL⟩ := (H2.below B5).open
          simp only [Value.slice.injEq, true_and] at hv'
          obtain ⟨rfl, rfl⟩ := hv'
          clear X2 B5 H2 G2 HM BB2 X0 H0 C1
          have HT5 := hide T5
          have HX5 := hide X5
          clear T5 X5
          go_wp2
          go_loopw [39] (fun iv wr => ∃ (k : Nat) (vi vk vl : Value) (ids : List ByteArray) (keys lens : List Int), k ≤ L.length ∧ iv = .int .i64 k ∧ Hid (ids = (L.take k).map (·.id)) ∧ Hid (keys = (L.take k).map (·.key)) ∧ Hid (lens = (L.take k).map (fun c => (c.w.length : Int))) ∧ ids.length ≤ k ∧ keys.length ≤ k ∧ lens.length ≤ k ∧ Bx w5.heap.size wr vi vk vl (.slice ta tn tc) false ids keys lens ∧ Below w5.heap.size w5 wr ∧ w5.heap.size < wr.heap.size) (fun iv _ => L.length - (intOf iv).toNat)
          case atStart => exact ⟨0, _, _, _, [], [], [], Nat.zero_le _, rfl, rfl, rfl, rfl, Nat.zero_le _, Nat.zero_le _, Nat.zero_le _, ⟨heap_alloc_new w5 _, World.ownsRow_nil _ _ _ _, World.ownsRow_nil _ _ _ _, World.ownsRow_nil _ _ _ _, fun b hb => by cases hb⟩, below_alloc _ _, by simp⟩
          case round =>
            obtain ⟨k, vi, vk, vl, ids, keys, lens, hk, rfl, HI, HK, HLN, hi1, hk1, hl1, hbx, hbel, hsz⟩ := hrel
            by_cases hlt : k < L.length
            · obtain ⟨b, off, rfl, hb, hc⟩ := hoL (by omega)
              obtain ⟨c, hx⟩ : ∃ c, L[k]? = some c := ⟨L[k]'(by omega), List.getElem?_eq_getElem _⟩
              obtain ⟨wa, wc, c0, c1, c2, -⟩ := hc k c hx
              have d0 := (hbel.cell (p := ⟨b, off + k * 3, none⟩) hb).trans c0
              have d1 := (hbel.cell (p := ⟨b, off + k * 3 + 1, none⟩) hb).trans c1
              have d2 := (hbel.cell (p := ⟨b, off + k * 3 + 2, none⟩) hb).trans c2
              have HTS := hide (take_snoc8 hx)
              have P0 := hbx.below (below_alloc wr (.cells #[.string c.id, .int .i64 c.key, .slice wa c.w.length wc] 25))
              have CB0 : (wr.alloc (.cells #[.string c.id, .int .i64 c.key, .slice wa c.w.length wc] 25)).heap[wr.heap.size]? = some (.cells #[.string c.id, .int .i64 c.key, .slice wa c.w.length wc] 25 (0, 0)) := heap_alloc_new wr _
              have bel0 : Below w5.heap.size w5 (wr.alloc (.cells #[.string c.id, .int .i64 c.key, .slice wa c.w.length wc] 25)) := hbel.trans ((below_alloc wr _).mono (by omega))
              have hs0 : w5.heap.size ≤ (wr.alloc (.cells #[.string c.id, .int .i64 c.key, .slice wa c.w.length wc] 25)).heap.size := by simp; omega
              have hcbS : wr.heap.size ≠ w5.heap.size := by omega
              have y0 := box_cell hbx.1 (j := 0) rfl
              clear hc c0 c1 c2 hx hbx hbel
              go_wp2_with (first
                | (at_builtin; refine append_oneL (f := Value.string) rfl _ _ 23 rfl Try.underlying23 hi9 hz90 hz91 hz92 rfl (fun _ => rfl) (pre := ids) (v := vi) c.id rfl rfl (by simp) P0.2.1 (by simp; omega) (by omega) (by omega) ?_
                   intro g1 q1 u1w O1 g1' l1
                   have K1 := P0.ids O1 g1'
                   have S1 := Bx.grow (j := 0) (u := .slice (some ⟨g1, 0, none⟩) (ids.length + 1) q1) P0.2.1 bel0 hs0 g1'
                   have C1c := card_grow (S := w5.heap.size) (j := 0) (u := .slice (some ⟨g1, 0, none⟩) (ids.length + 1) q1) CB0 P0.2.1 (by decide) g1' hcbS
                   have bb1 := box_grown P0.1 g1' (row_ne P0.2.1)
                   have bc1 := box_grown CB0 g1' (own_ne_box P0.2.1 CB0 (by decide))
                   have ya1 := box_cell bb1 (j := 0) rfl
                   have yb1 := box_cell bb1 (j := 1) rfl
                   have yc1 := box_cell bb1 (j := 2) rfl
                   have fa1 := bfro bb1 0
                   have za1 := box_cell bc1 (j := 1) rfl
                   have zb1 := box_cell bc1 (j := 2) rfl
                   have hz1 : w5.heap.size < u1w.heap.size := Nat.lt_of_lt_of_le (by simp; omega) g1'.size)
                | (at_builtin; refine append_oneL (f := Value.int .i64) rfl _ _ 28 rfl Try.underlying28 hj hj0 hj1 hj2 rfl (fun _ => rfl) (pre := keys) (v := vk) c.key rfl rfl (by simp) K1.2.2.1 (by simp; omega) (by omega) (by omega) ?_
                   intro g2 q2 u2w O2 g2' l2
                   have K2 := K1.keys O2 g2' l2
                   have S2 := Bx.grow (j := 1) (u := .slice (some ⟨g2, 0, none⟩) (keys.length + 1) q2) K1.2.2.1 S1 (by simp; omega) g2'
                   have C2c := card_grow (S := w5.heap.size) (j := 1) (u := .slice (some ⟨g2, 0, none⟩) (keys.length + 1) q2) C1c K1.2.2.1 (by decide) g2' hcbS
                   have bb2 := box_grown K1.1 g2' (row_ne K1.2.2.1)
                   have bc2 := box_grown C1c g2' (own_ne_box K1.2.2.1 C1c (by decide))
                   have ya2 := box_cell bb2 (j := 0) rfl
                   have yb2 := box_cell bb2 (j := 1) rfl
                   have yc2 := box_cell bb2 (j := 2) rfl
                   have fa2 := bfro bb2 1
                   have za2 := box_cell bc2 (j := 1) rfl
                   have zb2 := box_cell bc2 (j := 2) rfl
                   have hz2 : w5.heap.size < u2w.heap.size := Nat.lt_of_lt_of_le (by simp; omega) g2'.size)
                | (at_builtin; refine append_oneL (f := Value.int .i64) rfl _ _ 28 rfl Try.underlying28 hj hj0 hj1 hj2 rfl (fun _ => rfl) (pre := lens) (v := vl) (c.w.length : Int) rfl rfl (by simp) K2.2.2.2.1 (by simp; omega) (by omega) (by omega) ?_
                   intro g3 q3 u3w O3 g3' l3
                   have K3 := K2.lens O3 g3' l3
                   have S3 := Bx.grow (j := 2) (u := .slice (some ⟨g3, 0, none⟩) (lens.length + 1) q3) K2.2.2.2.1 S2 (by simp; omega) g3'
                   have C3c := card_grow (S := w5.heap.size) (j := 2) (u := .slice (some ⟨g3, 0, none⟩) (lens.length + 1) q3) C2c K2.2.2.2.1 (by decide) g3' hcbS
                   have bb3 := box_grown K2.1 g3' (row_ne K2.2.2.2.1)
                   have bc3 := box_grown C2c g3' (own_ne_box K2.2.2.2.1 C2c (by decide))
                   have ya3 := box_cell bb3 (j := 0) rfl
                   have yb3 := box_cell bb3 (j := 1) rfl
                   have yc3 := box_cell bb3 (j := 2) rfl
                   have fa3 := bfro bb3 2
                   have za3 := box_cell bc3 (j := 1) rfl
                   have zb3 := box_cell bc3 (j := 2) rfl
                   have hz3 : w5.heap.size < u3w.heap.size := Nat.lt_of_lt_of_le (by simp; omega) g3'.size))
              have HK3 := hide K3
              have HS3 := hide S3
              clear K3 S3 C3c bb3 bc3 ya3 yb3 yc3 fa3 za3 zb3 K2 S2 C2c bb2 bc2 ya2 yb2 yc2 fa2 za2 zb2 K1 S1 C1c bb1 bc1 ya1 yb1 yc1 fa1 za1 zb1 P0 CB0 bel0
              go_roundw
              case rel =>
                refine ⟨k + 1, _, _, _, ids ++ [c.id], keys ++ [c.key], lens ++ [(c.w.length : Int)], by omega, by go_num, ?_, ?_, ?_, by simp; omega, by simp; omega, by simp; omega, unhide HK3, unhide HS3, by simp; omega⟩
                · show _ = _
                  rw [unhide HTS, List.map_append, ← unhide HI]; rfl
                · show _ = _
                  rw [unhide HTS, List.map_append, ← unhide HK]; rfl
                · show _ = _
                  rw [unhide HTS, List.map_append, ← unhide HLN]; rfl
              case measure => simp [intOf]; omega
            · have hkl : k = L.length := by omega
              have X9 := (hbel.block _ hZ5).trans (unhide HX5)
              have T9 := (unhide HT5).below hbel
              have s0 := box_cell hbx.1 (j := 0) rfl
              have s1 := box_cell hbx.1 (j := 1) rfl
              have s2 := box_cell hbx.1 (j := 2) rfl
              have s3 := box_cell hbx.1 (j := 3) rfl
              have s4 := box_cell hbx.1 (j := 4) rfl
              obtain ⟨ia, ic, hvi, -⟩ := id (Gl.owned hbx.2.1)
              obtain ⟨ka, kc, hvk, -⟩ := id (Sl.owned hbx.2.2.1)
              obtain ⟨lna, lnc, hvl, -⟩ := id (Sl.owned hbx.2.2.2.1)
              subst hvi hvk hvl
              have x0 := box_cell X9 (j := 0) rfl
              have x1 := box_cell X9 (j := 1) rfl
              have x2 := box_cell X9 (j := 2) rfl
              have x3 := box_cell X9 (j := 3) rfl
              have x4 := box_cell X9 (j := 4) rfl
              have f0 := bfro X9 0
              have f1 := bfro X9 1
              have f2 := bfro X9 2
              have f3 := bfro X9 3
              have f4 := bfro X9 4
              have HE := hide (build_end hbx T9 hB5 hbel BB5 hZ5 (by rw [unhide HI, List.take_of_length_le (by omega)]) (by rw [unhide HK, List.take_of_length_le (by omega)]) (by rw [unhide HLN, List.take_of_length_le (by omega)]) ⟨by first | rfl | exact (unhide HNI).1, (unhide HNI).2⟩)
              clear X9 T9 hbx hbel
              go_wp2
              exact bodyPost_ret (v := .tuple #[.agg #[.slice ia ids.length ic, .slice ka keys.length kc, .slice lna lens.length lnc, .slice ta tn tc, .bool false], .int .i64 0]) (by simp [results, Try.results9, go_sem, x0, x1, x2, x3, x4]) rfl (unhide HE)
        | true =>
          rw [if_pos rfl] at hr
          have HR := hide hr.symm
          clear hr
          go_enter Try.func9, Try.ntmps9
          go_wp2_with fail
          rw [← unhide HW]
          refine C1.mono ?_
          rintro e w1 ⟨rfl, B1⟩
          have X1 := box_below X0 B1
          have BB := below_trans' B0 B1
          have H1 := H0.below B1
          have hs1 := B1.size
          clear B1
          go_wp2_with fail
          refine (unlikeWords_any _ _ _ H1 hll hcw _ (unhide HM)).mono ?_
          rintro e w2 ⟨v2, rfl, G2, B2⟩
          have X2 := box_below X1 B2
          have BB2 := below_trans' BB B2
          have H2 := H1.below B2
          have hs2 := B2.size
          clear X1 B2 BB H1
          obtain ⟨ps, KP, hps, WS⟩ := H2
          have hpl : ps.length = L.length := by rw [← hps, List.length_map]
          go_wp2_with fail
          refine (cloneC_any _ ps _ KP (by omega)).mono ?_
          rintro e w3 ⟨v3, rfl, O3, B3⟩
          obtain ⟨n, hn⟩ : ∃ n, ps.length = n := ⟨_, rfl⟩
          obtain ⟨a3, c3, hv3, -⟩ := id (Kl.owned encC_len (by decide) O3)
          rw [hn] at hv3
          subst hv3
          have X3 := box_below X2 B3
          have BB3 := below_trans' BB2 B3
          have hs3 := B3.size
          have hu3 : S.Unlike (ps.map (·.1)) := by rw [hps]; exact hun
          have CS := sortC_all _ _ ps w3 O3 hu3 (by omega)
          clear X2 BB2 KP
          go_wp2_with fail
          refine CS.mono ?_
          rintro e w4 ⟨rfl, ps', hperm, hup, O4, g4⟩
          have B4 : Below w2.heap.size w3 w4 := ⟨g4.os, g4.tape, g4.output, g4.size, fun j hj => g4.block j (by omega) (fun e => by have := (O3.lt j e.symm).1; omega)⟩
          have B24 : Below w2.heap.size w2 w4 := B3.trans B4
          have BB4 : Below w.heap.size w w4 := BB3.trans (B4.mono (by omega))
          have X4 : w4.heap[w.heap.size]? = some (.cells #[.slice none 0 0, .slice none 0 0, .slice none 0 0, .slice none 0 0, .bool false] 31 (0, 0)) := (B4.block _ (by omega)).trans X3
          have G4 := G2.below B24
          have hs4 := B4.size
          obtain ⟨L2, hL2⟩ : ∃ L2, ps'.map (·.1) = L2 := ⟨_, rfl⟩
          have hp2 : L2.Perm L := by rw [← hL2, ← hps]; exact hperm.map _
          have hsrt : S.srt L = L2 := by
            rw [hL2] at hup
            exact S.srt_is hun hup hp2
          have H4 : Cs w4 (.slice a3 n c3) L2 := by
            rw [← hL2]
            exact Cs.own O4 (fun p hp => (WS p (hperm.subset hp)).below B24)
          have hLL : L2.length = n := by rw [hp2.length_eq, ← hpl, hn]
          have hn64 : n ≤ 64 := by omega
          clear X3 BB3 G2 B3 B4 B24 g4 O3 O4 CS hup
          go_wp2_with fail
          refine (terms_any _ _ _ _ _ H4 G4 hri (by omega) hwl (fun c hc => hcw c (hp2.subset hc)) (fun c hc => hin c (hp2.subset hc)) hwz).mono ?_
          rintro e w5 ⟨tv, rfl, T5, B5⟩
          have X5 := box_below X4 B5
          have BB5 := below_trans' BB4 B5
          have hs5 := B5.size
          clear X4 BB4
          obtain ⟨tn, htn⟩ : ∃ tn, (S.words L).length = tn := ⟨_, rfl⟩
          obtain ⟨ta, tc, htv, -⟩ := id T5.ts.open
          rw [List.length_map, htn] at htv
          subst htv
          have HNI : Hid ((S.words L2 = S.words L) ∧ S.seg L2 = r.1 ∧ r.2.1 = true ∧ r.2.2 = 0) := by
            show _ ∧ _
            rw [unhide HR, ← hsrt]; exact ⟨S.words_perm (S.srt_perm L), rfl, rfl, rfl⟩
          have hZ5 : w.heap.size < w5.heap.size := by omega
          have hB5 : w.heap.size < w4.heap.size + 1 := by omega
          obtain ⟨a', cap', hv', -, -, -, hoL⟩ := (H4.below B5).open
          simp only [Value.slice.injEq] at hv'
          obtain ⟨rfl, -, rfl⟩ := hv'
          clear B5 H4 G4 HM X0 H0 C1 hsrt
          have HT5 := hide T5
          have HX5 := hide X5
          clear T5 X5
          go_wp2
          go_loopw [39] (fun iv wr => ∃ (k : Nat) (vi vk vl : Value) (ids : List ByteArray) (keys lens : List Int), k ≤ n ∧ iv = .int .i64 k ∧ Hid (ids = (L2.take k).map (·.id)) ∧ Hid (keys = (L2.take k).map (·.key)) ∧ Hid (lens = (L2.take k).map (fun c => (c.w.length : Int))) ∧ ids.length ≤ k ∧ keys.length ≤ k ∧ lens.length ≤ k ∧ Bx w5.heap.size wr vi vk vl (.slice ta tn tc) true ids keys lens ∧ Below w5.heap.size w5 wr ∧ w5.heap.size < wr.heap.size) (fun iv _ => n - (intOf iv).toNat)
          case atStart => exact ⟨0, _, _, _, [], [], [], Nat.zero_le _, rfl, rfl, rfl, rfl, Nat.zero_le _, Nat.zero_le _, Nat.zero_le _, ⟨heap_alloc_new w5 _, World.ownsRow_nil _ _ _ _, World.ownsRow_nil _ _ _ _, World.ownsRow_nil _ _ _ _, fun b hb => by cases hb⟩, below_alloc _ _, by simp⟩
          case round =>
            obtain ⟨k, vi, vk, vl, ids, keys, lens, hk, rfl, HI, HK, HLN, hi1, hk1, hl1, hbx, hbel, hsz⟩ := hrel
            by_cases hlt : k < n
            · obtain ⟨b, off, rfl, hb, hc⟩ := hoL (by omega)
              obtain ⟨c, hx⟩ : ∃ c, L2[k]? = some c := ⟨L2[k]'(by omega), List.getElem?_eq_getElem _⟩
              obtain ⟨wa, wc, c0, c1, c2, -⟩ := hc k c hx
              have d0 := (hbel.cell (p := ⟨b, off + k * 3, none⟩) hb).trans c0
              have d1 := (hbel.cell (p := ⟨b, off + k * 3 + 1, none⟩) hb).trans c1
              have d2 := (hbel.cell (p := ⟨b, off + k * 3 + 2, none⟩) hb).trans c2
              have HTS := hide (take_snoc8 hx)
              have P0 := hbx.below (below_alloc wr (.cells #[.string c.id, .int .i64 c.key, .slice wa c.w.length wc] 25))
              have CB0 : (wr.alloc (.cells #[.string c.id, .int .i64 c.key, .slice wa c.w.length wc] 25)).heap[wr.heap.size]? = some (.cells #[.string c.id, .int .i64 c.key, .slice wa c.w.length wc] 25 (0, 0)) := heap_alloc_new wr _
              have bel0 : Below w5.heap.size w5 (wr.alloc (.cells #[.string c.id, .int .i64 c.key, .slice wa c.w.length wc] 25)) := hbel.trans ((below_alloc wr _).mono (by omega))
              have hs0 : w5.heap.size ≤ (wr.alloc (.cells #[.string c.id, .int .i64 c.key, .slice wa c.w.length wc] 25)).heap.size := by simp; omega
              have hcbS : wr.heap.size ≠ w5.heap.size := by omega
              have y0 := box_cell hbx.1 (j := 0) rfl
              clear hc c0 c1 c2 hx hbx hbel
              go_wp2_with (first
                | (at_builtin; refine append_oneL (f := Value.string) rfl _ _ 23 rfl Try.underlying23 hi9 hz90 hz91 hz92 rfl (fun _ => rfl) (pre := ids) (v := vi) c.id rfl rfl (by simp) P0.2.1 (by simp; omega) (by omega) (by omega) ?_
                   intro g1 q1 u1w O1 g1' l1
                   have K1 := P0.ids O1 g1'
                   have S1 := Bx.grow (j := 0) (u := .slice (some ⟨g1, 0, none⟩) (ids.length + 1) q1) P0.2.1 bel0 hs0 g1'
                   have C1c := card_grow (S := w5.heap.size) (j := 0) (u := .slice (some ⟨g1, 0, none⟩) (ids.length + 1) q1) CB0 P0.2.1 (by decide) g1' hcbS
                   have bb1 := box_grown P0.1 g1' (row_ne P0.2.1)
                   have bc1 := box_grown CB0 g1' (own_ne_box P0.2.1 CB0 (by decide))
                   have ya1 := box_cell bb1 (j := 0) rfl
                   have yb1 := box_cell bb1 (j := 1) rfl
                   have yc1 := box_cell bb1 (j := 2) rfl
                   have fa1 := bfro bb1 0
                   have za1 := box_cell bc1 (j := 1) rfl
                   have zb1 := box_cell bc1 (j := 2) rfl
                   have hz1 : w5.heap.size < u1w.heap.size := Nat.lt_of_lt_of_le (by simp; omega) g1'.size)
                | (at_builtin; refine append_oneL (f := Value.int .i64) rfl _ _ 28 rfl Try.underlying28 hj hj0 hj1 hj2 rfl (fun _ => rfl) (pre := keys) (v := vk) c.key rfl rfl (by simp) K1.2.2.1 (by simp; omega) (by omega) (by omega) ?_
                   intro g2 q2 u2w O2 g2' l2
                   have K2 := K1.keys O2 g2' l2
                   have S2 := Bx.grow (j := 1) (u := .slice (some ⟨g2, 0, none⟩) (keys.length + 1) q2) K1.2.2.1 S1 (by simp; omega) g2'
                   have C2c := card_grow (S := w5.heap.size) (j := 1) (u := .slice (some ⟨g2, 0, none⟩) (keys.length + 1) q2) C1c K1.2.2.1 (by decide) g2' hcbS
                   have bb2 := box_grown K1.1 g2' (row_ne K1.2.2.1)
                   have bc2 := box_grown C1c g2' (own_ne_box K1.2.2.1 C1c (by decide))
                   have ya2 := box_cell bb2 (j := 0) rfl
                   have yb2 := box_cell bb2 (j := 1) rfl
                   have yc2 := box_cell bb2 (j := 2) rfl
                   have fa2 := bfro bb2 1
                   have za2 := box_cell bc2 (j := 1) rfl
                   have zb2 := box_cell bc2 (j := 2) rfl
                   have hz2 : w5.heap.size < u2w.heap.size := Nat.lt_of_lt_of_le (by simp; omega) g2'.size)
                | (at_builtin; refine append_oneL (f := Value.int .i64) rfl _ _ 28 rfl Try.underlying28 hj hj0 hj1 hj2 rfl (fun _ => rfl) (pre := lens) (v := vl) (c.w.length : Int) rfl rfl (by simp) K2.2.2.2.1 (by simp; omega) (by omega) (by omega) ?_
                   intro g3 q3 u3w O3 g3' l3
                   have K3 := K2.lens O3 g3' l3
                   have S3 := Bx.grow (j := 2) (u := .slice (some ⟨g3, 0, none⟩) (lens.length + 1) q3) K2.2.2.2.1 S2 (by simp; omega) g3'
                   have C3c := card_grow (S := w5.heap.size) (j := 2) (u := .slice (some ⟨g3, 0, none⟩) (lens.length + 1) q3) C2c K2.2.2.2.1 (by decide) g3' hcbS
                   have bb3 := box_grown K2.1 g3' (row_ne K2.2.2.2.1)
                   have bc3 := box_grown C2c g3' (own_ne_box K2.2.2.2.1 C2c (by decide))
                   have ya3 := box_cell bb3 (j := 0) rfl
                   have yb3 := box_cell bb3 (j := 1) rfl
                   have yc3 := box_cell bb3 (j := 2) rfl
                   have fa3 := bfro bb3 2
                   have za3 := box_cell bc3 (j := 1) rfl
                   have zb3 := box_cell bc3 (j := 2) rfl
                   have hz3 : w5.heap.size < u3w.heap.size := Nat.lt_of_lt_of_le (by simp; omega) g3'.size))
              have HK3 := hide K3
              have HS3 := hide S3
              clear K3 S3 C3c bb3 bc3 ya3 yb3 yc3 fa3 za3 zb3 K2 S2 C2c bb2 bc2 ya2 yb2 yc2 fa2 za2 zb2 K1 S1 C1c bb1 bc1 ya1 yb1 yc1 fa1 za1 zb1 P0 CB0 bel0
              go_roundw
              case rel =>
                refine ⟨k + 1, _, _, _, ids ++ [c.id], keys ++ [c.key], lens ++ [(c.w.length : Int)], by omega, by go_num, ?_, ?_, ?_, by simp; omega, by simp; omega, by simp; omega, unhide HK3, unhide HS3, by simp; omega⟩
                · show _ = _
                  rw [unhide HTS, List.map_append, ← unhide HI]; rfl
                · show _ = _
                  rw [unhide HTS, List.map_append, ← unhide HK]; rfl
                · show _ = _
                  rw [unhide HTS, List.map_append, ← unhide HLN]; rfl
              case measure => simp [intOf]; omega
            · have hkl : k = n := by omega
              have X9 := (hbel.block _ hZ5).trans (unhide HX5)
              have T9 := (unhide HT5).below hbel
              have s0 := box_cell hbx.1 (j := 0) rfl
              have s1 := box_cell hbx.1 (j := 1) rfl
              have s2 := box_cell hbx.1 (j := 2) rfl
              have s3 := box_cell hbx.1 (j := 3) rfl
              have s4 := box_cell hbx.1 (j := 4) rfl
              obtain ⟨ia, ic, hvi, -⟩ := id (Gl.owned hbx.2.1)
              obtain ⟨ka, kc, hvk, -⟩ := id (Sl.owned hbx.2.2.1)
              obtain ⟨lna, lnc, hvl, -⟩ := id (Sl.owned hbx.2.2.2.1)
              subst hvi hvk hvl
              have x0 := box_cell X9 (j := 0) rfl
              have x1 := box_cell X9 (j := 1) rfl
              have x2 := box_cell X9 (j := 2) rfl
              have x3 := box_cell X9 (j := 3) rfl
              have x4 := box_cell X9 (j := 4) rfl
              have f0 := bfro X9 0
              have f1 := bfro X9 1
              have f2 := bfro X9 2
              have f3 := bfro X9 3
              have f4 := bfro X9 4
              have HE := hide (build_end hbx T9 hB5 hbel BB5 hZ5 (by rw [unhide HI, List.take_of_length_le (by omega)]) (by rw [unhide HK, List.take_of_length_le (by omega)]) (by rw [unhide HLN, List.take_of_length_le (by omega)]) ⟨by first | rfl | exact (unhide HNI).1, (unhide HNI).2⟩)
              clear X9 T9 hbx hbel
              go_wp2
              exact bodyPost_ret (v := .tuple #[.agg #[.slice ia ids.length ic, .slice ka keys.length kc, .slice lna lens.length lnc, .slice ta tn tc, .bool true], .int .i64 0]) (by simp [results, Try.results9, go_sem, x0, x1, x2, x3, x4]) rfl (unhide HE)
end Go.Proofs.Ytonhehhmnobciaa
