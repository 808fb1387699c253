/-
  The words of all cards, in their order, each once: as the library's Sort and Compact leave them; the contract of unlikeWords.
-/
import Derived.Test.YtonhehhmnobciaaShelf8
import Derived.Test.YtonhehhmnobciaaMayAll8
import Derived.Sort.OwnSorted
namespace Go.Proofs.Ytonhehhmnobciaa
set_option maxRecDepth 100000
open Go.Shelf Go.Sort Go.Proofs Go.RowKit

namespace S
def bs (x : ByteArray) : List UInt8 := x.data.toList
def mk (l : List UInt8) : ByteArray := ⟨l.toArray⟩
theorem mk_bs (x : ByteArray) : mk (bs x) = x := by simp [mk, bs]
theorem bs_mk (l : List UInt8) : bs (mk l) = l := by simp [mk, bs]
theorem lt_mk (x y : List UInt8) : K.lt (mk x) (mk y) = decide (x < y) := by rw [K.lt_ls, K.ls, bytesLess_eq]; rfl

theorem mem_compact {d : Array (List UInt8)} : ∀ {n : Nat} {j : Nat}, j < n → d[j]! ∈ Lib.compactUpTo d n
  | 0, j, h => by omega
  | n + 1, j, h => by
    rw [Lib.compactUpTo_succ]
    rcases Nat.lt_or_ge j n with h1 | h1
    · exact List.mem_append_left _ (mem_compact h1)
    · have e : j = n := by omega
      subst e
      cases hk : Lib.keeps d j with
      | true => simp
      | false =>
        have hj : j ≠ 0 ∧ d[j]! = d[j - 1]! := by simpa [Lib.keeps] using hk
        rw [hj.2]
        exact List.mem_append_left _ (mem_compact (by omega))

theorem compact_sub {d : Array (List UInt8)} {n : Nat} {x : List UInt8} (h : x ∈ Lib.compactUpTo d n) : ∃ j, j < n ∧ x = d[j]! := by
  unfold Lib.compactUpTo at h
  obtain ⟨j, hj, rfl⟩ := List.mem_map.1 h
  exact ⟨j, List.mem_range.1 (List.mem_filter.1 hj).1, rfl⟩

theorem compact_rise {d : Array (List UInt8)} (hs : ∀ i j, i < j → j < d.size → d[i]! ≤ d[j]!) : ∀ {n : Nat}, n ≤ d.size → (Lib.compactUpTo d n).Pairwise (fun x y => x < y)
  | 0, _ => by simp [Lib.compactUpTo]
  | n + 1, h => by
    rw [Lib.compactUpTo_succ]
    have ih := compact_rise hs (n := n) (by omega)
    cases hk : Lib.keeps d n with
    | false => simpa using ih
    | true =>
      rw [if_pos rfl]
      refine List.pairwise_append.2 ⟨ih, by simp, fun x hx y hy => ?_⟩
      simp only [List.mem_singleton] at hy
      subst hy
      obtain ⟨j, hj, rfl⟩ := compact_sub hx
      have hn : d[n]! ≠ d[n - 1]! := by
        simp only [Lib.keeps, decide_eq_true_eq] at hk
        rcases hk with hk | hk
        · omega
        · exact hk
      have h1 : d[n - 1]! ≤ d[n]! := hs (n - 1) n (by omega) (by omega)
      have h2 : d[j]! ≤ d[n - 1]! := by
        rcases Nat.lt_or_ge j (n - 1) with h | h
        · exact hs j (n - 1) h (by omega)
        · have e : j = n - 1 := by omega
          rw [e]
          exact List.le_refl _
      have h3 : d[n - 1]! < d[n]! := by
        cases hl : K.ls d[n - 1]! d[n]! with
        | true =>
          rw [K.ls, bytesLess_eq] at hl
          simpa using hl
        | false =>
          have hg : K.ls d[n]! d[n - 1]! = false := by
            rw [K.ls, bytesLess_eq]
            exact decide_eq_false (List.not_lt.2 h1)
          exact absurd (K.ls_tri _ _ hl hg).symm hn
      exact List.lt_of_le_of_lt h2 h3

/-- What Sort and Compact leave of the words of cards. -/
theorem sorted_words (L : List Cd) : (Lib.compact (((L.flatMap (·.w)).map bs).mergeSort fun x y => decide (x ≤ y))).map mk = words L := by
  generalize hm : ((L.flatMap (·.w)).map bs).mergeSort (fun x y => decide (x ≤ y)) = m
  have hp : m.Pairwise (fun a b => decide (a ≤ b) = true) := by
    rw [← hm]
    refine List.pairwise_mergeSort (fun a b c h k => ?_) (fun a b => ?_) _
    · simp only [decide_eq_true_eq] at *
      exact List.le_trans h k
    · simp only [Bool.or_eq_true, decide_eq_true_eq]
      exact List.le_total a b
  have hs : ∀ i j, i < j → j < m.toArray.size → m.toArray[i]! ≤ m.toArray[j]! := by
    intro i j hij hj
    simp only [List.size_toArray] at hj
    have := List.pairwise_iff_getElem.1 hp i j (by omega) hj hij
    simp only [decide_eq_true_eq] at this
    simpa [getElem!_pos, hj, show i < m.length by omega] using this
  refine D.rise_ext ?_ (words_rise L) fun x => ?_
  · unfold D.Rise
    rw [List.pairwise_map]
    have := compact_rise hs (n := m.length) (by simp)
    refine this.imp fun h => ?_
    rw [lt_mk]
    simpa using h
  · rw [mem_words]
    constructor
    · intro hx
      obtain ⟨l, hl, rfl⟩ := List.mem_map.1 hx
      obtain ⟨j, hj, rfl⟩ := compact_sub hl
      have hmem : m.toArray[j]! ∈ m := by simp [getElem!_pos, hj]
      rw [← hm, List.mem_mergeSort] at hmem
      obtain ⟨y, hy, e⟩ := List.mem_map.1 hmem
      obtain ⟨c, hc, hyc⟩ := List.mem_flatMap.1 hy
      refine ⟨c, hc, ?_⟩
      rw [← hm, ← e, mk_bs]
      exact hyc
    · rintro ⟨c, hc, hx⟩
      refine List.mem_map.2 ⟨bs x, ?_, mk_bs x⟩
      have hmem : bs x ∈ m := by
        rw [← hm, List.mem_mergeSort]
        exact List.mem_map_of_mem (List.mem_flatMap.2 ⟨c, hc, hx⟩)
      obtain ⟨j, hj, e⟩ := List.mem_iff_getElem.1 hmem
      have := mem_compact (d := m.toArray) (n := m.length) hj
      simpa [getElem!_pos, hj, e, Lib.compact] using this
end S

theorem Gl.take {α : Type} {f : α → Value} {w : World} {a : Option Addr} {n cap : Nat} {l : List α} (h : Gl f w (.slice a n cap) l) (j : Nat) (hj : j ≤ n) : Gl f w (.slice a j cap) (l.take j) := by
  obtain ⟨a', cap', hv, hl, hm, hn, hc⟩ := h
  simp only [Value.slice.injEq] at hv
  obtain ⟨rfl, rfl, rfl⟩ := hv
  have hlen : (l.take j).length = j := by simp; omega
  refine ⟨a, cap, by rw [hlen], by omega, hm, hn, fun x hx i y hi => ?_⟩
  refine hc x hx i y ?_
  have hij : i < j := by have := (List.getElem?_eq_some_iff.1 hi).1; omega
  rw [List.getElem?_take, if_pos hij] at hi
  exact hi

theorem map_bs (l : List ByteArray) : l.map Value.string = (l.map S.bs).map encStr := by
  rw [List.map_map]
  apply List.map_congr_left
  intro x _
  simp [S.bs]

theorem sortS_any (blk cap : Nat) (ss : List (List UInt8)) (w : World) (hH : Holds encStr w blk 0 ss.toArray) (hblk : blk < w.heap.size) (hsz : ss.length < 4611686018427387904) :
    Calls Try.prog 65 #[.slice (some ⟨blk, 0, none⟩) ss.length cap] w fun e w' =>
      e = .returned (.tuple #[]) ∧ ∃ n os, w' = grow (putRow encStr (Sort.ahead w n) blk 0 (ss.mergeSort fun x y => decide (x ≤ y)).toArray) os := Any.slices_Sort_string Try.lays190 blk 0 cap ss w hH hblk hsz
theorem sortS_none (p : Option Addr) (cap : Nat) (w : World) : Calls Try.prog 65 #[.slice p 0 cap] w fun e w' => e = .returned (.tuple #[]) ∧ w' = w := Any.slices_Sort_string_none Try.lays190 p cap w
theorem compS_any (blk cap : Nat) (zs : List (List UInt8)) (w : World) (hH : Holds encStr w blk 0 zs.toArray) (hsz : zs.length ≤ 9223372036854775807) (hcap : zs.length ≤ cap) :
    Calls Try.prog 66 #[.slice (some ⟨blk, 0, none⟩) zs.length cap] w fun e w' => e = .returned (.slice (some ⟨blk, 0, none⟩) (Lib.compact zs).length cap) ∧ ∃ q, w' = putRow encStr (Sort.ahead w q) blk 0 (Lib.compact zs ++ List.replicate (zs.length - (Lib.compact zs).length) []).toArray := Any.slices_Compact_string Try.lays194 blk 0 cap zs w hH hsz hcap
theorem compS_none (a : Option Addr) (cap : Nat) (w : World) : Calls Try.prog 66 #[.slice a 0 cap] w fun e w' => e = .returned (.slice a 0 cap) ∧ w' = w := Any.slices_Compact_string_empty Try.lays194 a cap w

theorem compact_le (zs : List (List UInt8)) : (Lib.compact zs).length ≤ zs.length := by
  unfold Lib.compact Lib.compactUpTo
  rw [List.length_map]
  exact Nat.le_trans (List.length_filter_le _ _) (by simp)
theorem grow_none (w : World) : grow w #[] = w := by simp [grow]

set_option maxHeartbeats 2000000 in
theorem unlikeWords_any (v : Value) (L : List Cd) (w : World) (h : Cs w v L) (hll : L.length ≤ 64) (hcw : ∀ c ∈ L, c.w.length ≤ 120) (r : Bool) (hr : D.may (S.words L) = r) :
    Calls Try.prog 28 #[v] w fun e w' => ∃ v', e = .returned (.tuple #[v', .bool r]) ∧ Gl .string w' v' (S.words L) ∧ Below w.heap.size w w' := by
  obtain ⟨i9, hi9, hz90, hz91, hz92⟩ := info_parts Try.infoS
  have H := h
  obtain ⟨a, cap, rfl, hl, hm, hna, -⟩ := h.open
  have HR := hide hr
  clear h hr
  go_enter Try.func28, Try.ntmps28
  go_wp2
  go_loopw [4, 9] (fun ov iv wr => ∃ (k : Nat) (pre : List ByteArray), k ≤ L.length ∧ iv = .int .i64 k ∧ Hid (pre = (L.take k).flatMap (·.w)) ∧ pre.length ≤ k * 120 ∧ wr.ownsRow w.heap.size 9 1 ov pre.length (pre.map Value.string) ∧ Below w.heap.size w wr) (fun _ iv _ => L.length - (intOf iv).toNat)
  case atStart => exact ⟨0, [], Nat.zero_le _, rfl, rfl, by simp, World.ownsRow_nil _ _ _ _, Below.refl _ _⟩
  case round =>
    obtain ⟨k, pre, hk, rfl, HP, hpl, hown, hbel⟩ := hrel
    by_cases hlt : k < L.length
    · have H1 := H.below hbel
      obtain ⟨a', cap', hv', -, -, -, ho⟩ := H1.open
      simp only [Value.slice.injEq, true_and] at hv'
      obtain ⟨rfl, rfl⟩ := hv'
      obtain ⟨b, off, rfl, hb, hc⟩ := ho (by omega)
      obtain ⟨c, hx⟩ : ∃ c, L[k]? = some c := ⟨L[k], List.getElem?_eq_getElem hlt⟩
      obtain ⟨wa, wc, c0, c1, c2, G0⟩ := hc k c hx
      have hcl := hcw c (List.mem_of_getElem? hx)
      have HTS := hide (take_snoc8 hx)
      have G1 := G0.below (below_alloc wr (.cells #[.string c.id, .int .i64 c.key, .slice wa c.w.length wc] 25))
      have O1 := hown.alloc (.cells #[.string c.id, .int .i64 c.key, .slice wa c.w.length wc] 25)
      have B1 := hbel.alloc hbel.size (.cells #[.string c.id, .int .i64 c.key, .slice wa c.w.length wc] 25)
      have hbs := hbel.size
      clear ho hc hx H1
      go_wp2_with (at_builtin; refine append_allG (f := Value.string) rfl _ _ 23 rfl Try.underlying23 hi9 hz90 hz91 hz92 rfl (fun _ => rfl) (pre := pre) (zs := c.w) rfl rfl G1 O1 B1 (by simp; omega) (by omega) (by decide) ?_; intro v5 w5 O5 B5)
      go_roundw
      case rel =>
        refine ⟨k + 1, pre ++ c.w, by omega, by go_num, ?_, by simp; omega, O5, B5⟩
        show _ = _
        rw [unhide HTS, List.flatMap_append, ← unhide HP]; simp
      case measure => simp [intOf]; omega
    · have HL : Hid (pre = L.flatMap (·.w)) := by show _ = _; rw [unhide HP, List.take_of_length_le (by omega)]
      rcases id hown.2 with ⟨rfl, h0⟩ | ⟨g, cap1, cur, rfl, hbg, hgg, hnc, hcm, hcs, htk⟩
      · have hp0 : pre = [] := List.eq_nil_of_length_eq_zero h0
        have HW : Hid (S.words L = []) := by
          show _ = _
          have := S.sorted_words L
          rw [← unhide HL, hp0] at this
          rw [← this]
          simp [Lib.compact, Lib.compactUpTo]
        have HM : Hid (D.may [] = r) := by show _ = _; rw [← unhide HR, unhide HW]
        have G9 : Gl .string wr (.slice none 0 0) ([] : List ByteArray) := Gl.nil _ _
        clear hown h0 HL HP hpl
        go_wp2_with (first
          | (go_at_call 65; refine (sortS_none _ _ _).mono ?_; rintro e w1 ⟨rfl, rfl⟩)
          | (go_at_call 66; refine (compS_none _ _ _).mono ?_; rintro e w1 ⟨rfl, rfl⟩)
          | (go_at_call 67; refine (may_any _ _ _ G9 _ (unhide HM)).mono ?_; rintro e w1 ⟨rfl, rfl⟩))
        go_ret2
        exact ⟨_, rfl, by rw [unhide HW]; exact Gl.nil _ _, hbel⟩
      · obtain ⟨n, hn⟩ : ∃ n, pre.length = n := ⟨_, rfl⟩
        obtain ⟨m, hm9⟩ : ∃ m, (pre.map S.bs).mergeSort (fun x y => decide (x ≤ y)) = m := ⟨_, rfl⟩
        have hml : m.length = n := by rw [← hm9, List.length_mergeSort, List.length_map, hn]
        obtain ⟨k9, hk9⟩ : ∃ k9, (Lib.compact m).length = k9 := ⟨_, rfl⟩
        have hkn : k9 ≤ n := by rw [← hk9, ← hml]; exact compact_le m
        have HWD : Hid ((Lib.compact m).map S.mk = S.words L) := by show _ = _; rw [← hm9, unhide HL]; exact S.sorted_words L
        have hgs : g < wr.heap.size := (Array.getElem?_eq_some_iff.1 hgg).1
        rw [hn] at hnc hpl htk
        have hH : Holds encStr wr g 0 (pre.map S.bs).toArray := holds_of_block hgg (by rw [List.length_map, hn, ← map_bs]; simpa using htk)
        have CS := sortS_any g cap1 (pre.map S.bs) wr hH hgs (by rw [List.length_map, hn]; omega)
        rw [hm9, List.length_map, hn] at CS
        rw [hn]
        have HBG := hide hgg
        have hcs1 : cur.size = cap1 * 1 := hcs
        clear hown hgg htk hcs hH hm9 HL HP
        go_wp2_with (go_at_call 65; refine CS.mono ?_; rintro e w1 ⟨rfl, n1, os1, hw1⟩; have HW1 := hide hw1; clear hw1)
        have hw1 := unhide HW1
        clear HW1
        have hb1 : w1.heap[g]? = some (.cells (putCells encStr 0 m.toArray cur) 9 (0, 0)) := by rw [hw1]; exact heap_sorted _ (unhide HBG)
        have hsz1 : (putCells encStr 0 m.toArray cur).size = cap1 * 1 := by simp [putCells, hcs1]
        have htk1 : (putCells encStr 0 m.toArray cur).toList.take m.length = m.map encStr := take_putCells cur m (by omega)
        have B1 : Below w.heap.size w w1 := hbel.grown (by rw [hw1]; exact grownBy_sorted _) hbel.size (fun j hj => by cases hj; exact hbg)
        have hg1 : g < w1.heap.size := (Array.getElem?_eq_some_iff.1 hb1).1
        have CC := compS_any g cap1 m w1 (holds_of_block hb1 htk1) (by omega) (by omega)
        rw [hk9, hml] at CC
        obtain ⟨cur1, hcur1⟩ : ∃ cur1, putCells encStr 0 m.toArray cur = cur1 := ⟨_, rfl⟩
        rw [hcur1] at hb1 hsz1
        have HB1 := hide hb1
        clear hw1 hb1 htk1 hcur1
        refine CC.mono ?_
        rintro e w2 ⟨rfl, q2, hw2⟩
        have hw2' : w2 = grow (putRow encStr (Sort.ahead w1 q2) g 0 (Lib.compact m ++ List.replicate (n - k9) []).toArray) #[] := by rw [grow_none, hw2]
        have hlen : (Lib.compact m ++ List.replicate (n - k9) []).length = m.length := by simp; omega
        have O2 : w2.ownsRow w.heap.size 9 1 (.slice (some ⟨g, 0, none⟩) m.length cap1) m.length ((Lib.compact m ++ List.replicate (n - k9) []).map encStr) := by
          rw [hw2']
          exact ownsRow_sorted hlen hbg (unhide HB1) (by omega) hcm hsz1
        have B2 : Below w.heap.size w w2 := B1.grown (by rw [hw2']; exact grownBy_sorted _) B1.size (fun j hj => by cases hj; exact hbg)
        have G2 : Gl .string w2 (.slice (some ⟨g, 0, none⟩) k9 cap1) (S.words L) := by
          have e1 : (Lib.compact m ++ List.replicate (n - k9) []).map encStr = ((Lib.compact m ++ List.replicate (n - k9) []).map S.mk).map Value.string := by rw [List.map_map]; rfl
          rw [e1] at O2
          have := (Gl.owned O2).take k9 (by omega)
          rw [← List.map_take, List.take_left' hk9, unhide HWD] at this
          exact this
        clear O2 hw2 hw2' hlen B1 HB1 hsz1
        go_wp2_with (go_at_call 67; refine (may_any _ _ _ G2 _ (unhide HR)).mono ?_; rintro e w3 ⟨rfl, rfl⟩)
        go_ret2
        exact ⟨_, rfl, G2, B2⟩
end Go.Proofs.Ytonhehhmnobciaa
