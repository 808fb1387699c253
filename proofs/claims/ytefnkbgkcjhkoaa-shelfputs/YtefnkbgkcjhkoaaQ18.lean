/-
  Texts put together: Unlike8, Sort8, Build8, May13.
-/
import Derived.Test.YtefnkbgkcjhkoaaQ17
import Derived.Test.YtefnkbgkcjhkoaaQ11
import Derived.Sort.OwnSorted
import Derived.Test.YtefnkbgkcjhkoaaQ12
import Derived.Test.YtefnkbgkcjhkoaaQ08
import Derived.Test.YtefnkbgkcjhkoaaQ13
/-
  The words of all cards, in their order, each once: as the library's Sort and Compact leave them; the contract of unlikeWords.
-/
namespace Go.Proofs.Ytefnkbgkcjhkoaa
set_option maxRecDepth 100000
open Go.Shelf Go.Sort Go.Proofs Go.RowKit

namespace S
def bs (x : ByteArray) : List UInt8 := x.data.toList
def mk (l : List UInt8) : ByteArray := ⟨l.toArray⟩
theorem mk_bs (x : ByteArray) : mk (bs x) = x := by simp [mk, bs]
theorem bs_mk (l : List UInt8) : bs (mk l) = l := by simp [mk, bs]
theorem lt_mk (x y : List UInt8) : K.lt (mk x) (mk y) = decide (x < y) := by rw [K.lt_ls, K.ls, bytesLess_eq]; rfl

theorem mem_compact {d : Array (List UInt8)} : ∀ {n : Nat} {j : Nat}, j < n → d[j]! ∈ Lib.compactUpTo d n
  | 0, j, h => by omega
  | n + 1, j, h => by
    rw [Lib.compactUpTo_succ]
    rcases Nat.lt_or_ge j n with h1 | h1
    · exact List.mem_append_left _ (mem_compact h1)
    · have e : j = n := by omega
      subst e
      cases hk : Lib.keeps d j with
      | true => simp
      | false =>
        have hj : j ≠ 0 ∧ d[j]! = d[j - 1]! := by simpa [Lib.keeps] using hk
        rw [hj.2]
        exact List.mem_append_left _ (mem_compact (by omega))

theorem compact_sub {d : Array (List UInt8)} {n : Nat} {x : List UInt8} (h : x ∈ Lib.compactUpTo d n) : ∃ j, j < n ∧ x = d[j]! := by
  unfold Lib.compactUpTo at h
  obtain ⟨j, hj, rfl⟩ := List.mem_map.1 h
  exact ⟨j, List.mem_range.1 (List.mem_filter.1 hj).1, rfl⟩

theorem compact_rise {d : Array (List UInt8)} (hs : ∀ i j, i < j → j < d.size → d[i]! ≤ d[j]!) : ∀ {n : Nat}, n ≤ d.size → (Lib.compactUpTo d n).Pairwise (fun x y => x < y)
  | 0, _ => by simp [Lib.compactUpTo]
  | n + 1, h => by
    rw [Lib.compactUpTo_succ]
    have ih := compact_rise hs (n := n) (by omega)
    cases hk : Lib.keeps d n with
    | false => simpa using ih
    | true =>
      rw [if_pos rfl]
      refine List.pairwise_append.2 ⟨ih, by simp, fun x hx y hy => ?_⟩
      simp only [List.mem_singleton] at hy
      subst hy
      obtain ⟨j, hj, rfl⟩ := compact_sub hx
      have hn : d[n]! ≠ d[n - 1]! := by
        simp only [Lib.keeps, decide_eq_true_eq] at hk
        rcases hk with hk | hk
        · omega
        · exact hk
      have h1 : d[n - 1]! ≤ d[n]! := hs (n - 1) n (by omega) (by omega)
      have h2 : d[j]! ≤ d[n - 1]! := by
        rcases Nat.lt_or_ge j (n - 1) with h | h
        · exact hs j (n - 1) h (by omega)
        · have e : j = n - 1 := by omega
          rw [e]
          exact List.le_refl _
      have h3 : d[n - 1]! < d[n]! := by
        cases hl : K.ls d[n - 1]! d[n]! with
        | true =>
          rw [K.ls, bytesLess_eq] at hl
          simpa using hl
        | false =>
          have hg : K.ls d[n]! d[n - 1]! = false := by
            rw [K.ls, bytesLess_eq]
            exact decide_eq_false (List.not_lt.2 h1)
          exact absurd (K.ls_tri _ _ hl hg).symm hn
      exact List.lt_of_le_of_lt h2 h3

/-- What Sort and Compact leave of the words of cards. -/
theorem sorted_words (L : List Cd) : (Lib.compact (((L.flatMap (·.w)).map bs).mergeSort fun x y => decide (x ≤ y))).map mk = words L := by
  generalize hm : ((L.flatMap (·.w)).map bs).mergeSort (fun x y => decide (x ≤ y)) = m
  have hp : m.Pairwise (fun a b => decide (a ≤ b) = true) := by
    rw [← hm]
    refine List.pairwise_mergeSort (fun a b c h k => ?_) (fun a b => ?_) _
    · simp only [decide_eq_true_eq] at *
      exact List.le_trans h k
    · simp only [Bool.or_eq_true, decide_eq_true_eq]
      exact List.le_total a b
  have hs : ∀ i j, i < j → j < m.toArray.size → m.toArray[i]! ≤ m.toArray[j]! := by
    intro i j hij hj
    simp only [List.size_toArray] at hj
    have := List.pairwise_iff_getElem.1 hp i j (by omega) hj hij
    simp only [decide_eq_true_eq] at this
    simpa [getElem!_pos, hj, show i < m.length by omega] using this
  refine D.rise_ext ?_ (words_rise L) fun x => ?_
  · unfold D.Rise
    rw [List.pairwise_map]
    have := compact_rise hs (n := m.length) (by simp)
    refine this.imp fun h => ?_
    rw [lt_mk]
    simpa using h
  · rw [mem_words]
    constructor
    · intro hx
      obtain ⟨l, hl, rfl⟩ := List.mem_map.1 hx
      obtain ⟨j, hj, rfl⟩ := compact_sub hl
      have hmem : m.toArray[j]! ∈ m := by simp [getElem!_pos, hj]
      rw [← hm, List.mem_mergeSort] at hmem
      obtain ⟨y, hy, e⟩ := List.mem_map.1 hmem
      obtain ⟨c, hc, hyc⟩ := List.mem_flatMap.1 hy
      refine ⟨c, hc, ?_⟩
      rw [← hm, ← e, mk_bs]
      exact hyc
    · rintro ⟨c, hc, hx⟩
      refine List.mem_map.2 ⟨bs x, ?_, mk_bs x⟩
      have hmem : bs x ∈ m := by
        rw [← hm, List.mem_mergeSort]
        exact List.mem_map_of_mem (List.mem_flatMap.2 ⟨c, hc, hx⟩)
      obtain ⟨j, hj, e⟩ := List.mem_iff_getElem.1 hmem
      have := mem_compact (d := m.toArray) (n := m.length) hj
      simpa [getElem!_pos, hj, e, Lib.compact] using this
end S

theorem Gl.take {α : Type} {f : α → Value} {w : World} {a : Option Addr} {n cap : Nat} {l : List α} (h : Gl f w (.slice a n cap) l) (j : Nat) (hj : j ≤ n) : Gl f w (.slice a j cap) (l.take j) := by
  obtain ⟨a', cap', hv, hl, hm, hn, hc⟩ := h
  simp only [Value.slice.injEq] at hv
  obtain ⟨rfl, rfl, rfl⟩ := hv
  have hlen : (l.take j).length = j := by simp; omega
  refine ⟨a, cap, by rw [hlen], by omega, hm, hn, fun x hx i y hi => ?_⟩
  refine hc x hx i y ?_
  have hij : i < j := by have := (List.getElem?_eq_some_iff.1 hi).1; omega
  rw [List.getElem?_take, if_pos hij] at hi
  exact hi

theorem map_bs (l : List ByteArray) : l.map Value.string = (l.map S.bs).map encStr := by
  rw [List.map_map]
  apply List.map_congr_left
  intro x _
  simp [S.bs]

theorem sortS_any (blk cap : Nat) (ss : List (List UInt8)) (w : World) (hH : Holds encStr w blk 0 ss.toArray) (hblk : blk < w.heap.size) (hsz : ss.length < 4611686018427387904) :
    Calls Try.prog 62 #[.slice (some ⟨blk, 0, none⟩) ss.length cap] w fun e w' =>
      e = .returned (.tuple #[]) ∧ ∃ n os, w' = grow (putRow encStr (Sort.ahead w n) blk 0 (ss.mergeSort fun x y => decide (x ≤ y)).toArray) os := Any.slices_Sort_string Try.lays190 blk 0 cap ss w hH hblk hsz
theorem sortS_none (p : Option Addr) (cap : Nat) (w : World) : Calls Try.prog 62 #[.slice p 0 cap] w fun e w' => e = .returned (.tuple #[]) ∧ w' = w := Any.slices_Sort_string_none Try.lays190 p cap w
theorem compS_any (blk cap : Nat) (zs : List (List UInt8)) (w : World) (hH : Holds encStr w blk 0 zs.toArray) (hsz : zs.length ≤ 9223372036854775807) (hcap : zs.length ≤ cap) :
    Calls Try.prog 63 #[.slice (some ⟨blk, 0, none⟩) zs.length cap] w fun e w' => e = .returned (.slice (some ⟨blk, 0, none⟩) (Lib.compact zs).length cap) ∧ ∃ q, w' = putRow encStr (Sort.ahead w q) blk 0 (Lib.compact zs ++ List.replicate (zs.length - (Lib.compact zs).length) []).toArray := Any.slices_Compact_string Try.lays194 blk 0 cap zs w hH hsz hcap
theorem compS_none (a : Option Addr) (cap : Nat) (w : World) : Calls Try.prog 63 #[.slice a 0 cap] w fun e w' => e = .returned (.slice a 0 cap) ∧ w' = w := Any.slices_Compact_string_empty Try.lays194 a cap w

theorem compact_le (zs : List (List UInt8)) : (Lib.compact zs).length ≤ zs.length := by
  unfold Lib.compact Lib.compactUpTo
  rw [List.length_map]
  exact Nat.le_trans (List.length_filter_le _ _) (by simp)
theorem grow_none (w : World) : grow w #[] = w := by simp [grow]

set_option maxHeartbeats 2000000 in
theorem unlikeWords_any (v : Value) (L : List Cd) (w : World) (h : Cs w v L) (hll : L.length ≤ 64) (hcw : ∀ c ∈ L, c.w.length ≤ 120) (r : Bool) (hr : D.may (S.words L) = r) :
    Calls Try.prog 46 #[v] w fun e w' => ∃ v', e = .returned (.tuple #[v', .bool r]) ∧ Gl .string w' v' (S.words L) ∧ Below w.heap.size w w' := by
  obtain ⟨i9, hi9, hz90, hz91, hz92⟩ := info_parts Try.infoS
  have H := h
  obtain ⟨a, cap, rfl, hl, hm, hna, -⟩ := h.open
  have HR := hide hr
  clear h hr
  go_enter Try.func46, Try.ntmps46
  go_wp2
  go_loopw [4, 9] (fun ov iv wr => ∃ (k : Nat) (pre : List ByteArray), k ≤ L.length ∧ iv = .int .i64 k ∧ Hid (pre = (L.take k).flatMap (·.w)) ∧ pre.length ≤ k * 120 ∧ wr.ownsRow w.heap.size 9 1 ov pre.length (pre.map Value.string) ∧ Below w.heap.size w wr) (fun _ iv _ => L.length - (intOf iv).toNat)
  case atStart => exact ⟨0, [], Nat.zero_le _, rfl, rfl, by simp, World.ownsRow_nil _ _ _ _, Below.refl _ _⟩
  case round =>
    obtain ⟨k, pre, hk, rfl, HP, hpl, hown, hbel⟩ := hrel
    by_cases hlt : k < L.length
    · have H1 := H.below hbel
      obtain ⟨a', cap', hv', -, -, -, ho⟩ := H1.open
      simp only [Value.slice.injEq, true_and] at hv'
      obtain ⟨rfl, rfl⟩ := hv'
      obtain ⟨b, off, rfl, hb, hc⟩ := ho (by omega)
      obtain ⟨c, hx⟩ : ∃ c, L[k]? = some c := ⟨L[k], List.getElem?_eq_getElem hlt⟩
      obtain ⟨wa, wc, c0, c1, c2, G0⟩ := hc k c hx
      have hcl := hcw c (List.mem_of_getElem? hx)
      have HTS := hide (take_snoc8 hx)
      have G1 := G0.below (below_alloc wr (.cells #[.string c.id, .int .i64 c.key, .slice wa c.w.length wc] 30))
      have O1 := hown.alloc (.cells #[.string c.id, .int .i64 c.key, .slice wa c.w.length wc] 30)
      have B1 := hbel.alloc hbel.size (.cells #[.string c.id, .int .i64 c.key, .slice wa c.w.length wc] 30)
      have hbs := hbel.size
      clear ho hc hx H1
      go_wp2_with (at_builtin; refine append_allG (f := Value.string) rfl _ _ 28 rfl Try.underlying28 hi9 hz90 hz91 hz92 rfl (fun _ => rfl) (pre := pre) (zs := c.w) rfl rfl G1 O1 B1 (by simp; omega) (by omega) (by decide) ?_; intro v5 w5 O5 B5)
      go_roundw
      case rel =>
        refine ⟨k + 1, pre ++ c.w, by omega, by go_num, ?_, by simp; omega, O5, B5⟩
        show _ = _
        rw [unhide HTS, List.flatMap_append, ← unhide HP]; simp
      case measure => simp [intOf]; omega
    · have HL : Hid (pre = L.flatMap (·.w)) := by show _ = _; rw [unhide HP, List.take_of_length_le (by omega)]
      rcases id hown.2 with ⟨rfl, h0⟩ | ⟨g, cap1, cur, rfl, hbg, hgg, hnc, hcm, hcs, htk⟩
      · have hp0 : pre = [] := List.eq_nil_of_length_eq_zero h0
        have HW : Hid (S.words L = []) := by
          show _ = _
          have := S.sorted_words L
          rw [← unhide HL, hp0] at this
          rw [← this]
          simp [Lib.compact, Lib.compactUpTo]
        have HM : Hid (D.may [] = r) := by show _ = _; rw [← unhide HR, unhide HW]
        have G9 : Gl .string wr (.slice none 0 0) ([] : List ByteArray) := Gl.nil _ _
        clear hown h0 HL HP hpl
        go_wp2_with (first
          | (go_at_call 62; refine (sortS_none _ _ _).mono ?_; rintro e w1 ⟨rfl, rfl⟩)
          | (go_at_call 63; refine (compS_none _ _ _).mono ?_; rintro e w1 ⟨rfl, rfl⟩)
          | (go_at_call 64; refine (may_any _ _ _ G9 _ (unhide HM)).mono ?_; rintro e w1 ⟨rfl, rfl⟩))
        go_ret2
        exact ⟨_, rfl, by rw [unhide HW]; exact Gl.nil _ _, hbel⟩
      · obtain ⟨n, hn⟩ : ∃ n, pre.length = n := ⟨_, rfl⟩
        obtain ⟨m, hm9⟩ : ∃ m, (pre.map S.bs).mergeSort (fun x y => decide (x ≤ y)) = m := ⟨_, rfl⟩
        have hml : m.length = n := by rw [← hm9, List.length_mergeSort, List.length_map, hn]
        obtain ⟨k9, hk9⟩ : ∃ k9, (Lib.compact m).length = k9 := ⟨_, rfl⟩
        have hkn : k9 ≤ n := by rw [← hk9, ← hml]; exact compact_le m
        have HWD : Hid ((Lib.compact m).map S.mk = S.words L) := by show _ = _; rw [← hm9, unhide HL]; exact S.sorted_words L
        have hgs : g < wr.heap.size := (Array.getElem?_eq_some_iff.1 hgg).1
        rw [hn] at hnc hpl htk
        have hH : Holds encStr wr g 0 (pre.map S.bs).toArray := holds_of_block hgg (by rw [List.length_map, hn, ← map_bs]; simpa using htk)
        have CS := sortS_any g cap1 (pre.map S.bs) wr hH hgs (by rw [List.length_map, hn]; omega)
        rw [hm9, List.length_map, hn] at CS
        rw [hn]
        have HBG := hide hgg
        have hcs1 : cur.size = cap1 * 1 := hcs
        clear hown hgg htk hcs hH hm9 HL HP
        go_wp2_with (go_at_call 62; refine CS.mono ?_; rintro e w1 ⟨rfl, n1, os1, hw1⟩; have HW1 := hide hw1; clear hw1)
        have hw1 := unhide HW1
        clear HW1
        have hb1 : w1.heap[g]? = some (.cells (putCells encStr 0 m.toArray cur) 9 (0, 0)) := by rw [hw1]; exact heap_sorted _ (unhide HBG)
        have hsz1 : (putCells encStr 0 m.toArray cur).size = cap1 * 1 := by simp [putCells, hcs1]
        have htk1 : (putCells encStr 0 m.toArray cur).toList.take m.length = m.map encStr := take_putCells cur m (by omega)
        have B1 : Below w.heap.size w w1 := hbel.grown (by rw [hw1]; exact grownBy_sorted _) hbel.size (fun j hj => by cases hj; exact hbg)
        have hg1 : g < w1.heap.size := (Array.getElem?_eq_some_iff.1 hb1).1
        have CC := compS_any g cap1 m w1 (holds_of_block hb1 htk1) (by omega) (by omega)
        rw [hk9, hml] at CC
        obtain ⟨cur1, hcur1⟩ : ∃ cur1, putCells encStr 0 m.toArray cur = cur1 := ⟨_, rfl⟩
        rw [hcur1] at hb1 hsz1
        have HB1 := hide hb1
        clear hw1 hb1 htk1 hcur1
        refine CC.mono ?_
        rintro e w2 ⟨rfl, q2, hw2⟩
        have hw2' : w2 = grow (putRow encStr (Sort.ahead w1 q2) g 0 (Lib.compact m ++ List.replicate (n - k9) []).toArray) #[] := by rw [grow_none, hw2]
        have hlen : (Lib.compact m ++ List.replicate (n - k9) []).length = m.length := by simp; omega
        have O2 : w2.ownsRow w.heap.size 9 1 (.slice (some ⟨g, 0, none⟩) m.length cap1) m.length ((Lib.compact m ++ List.replicate (n - k9) []).map encStr) := by
          rw [hw2']
          exact ownsRow_sorted hlen hbg (unhide HB1) (by omega) hcm hsz1
        have B2 : Below w.heap.size w w2 := B1.grown (by rw [hw2']; exact grownBy_sorted _) B1.size (fun j hj => by cases hj; exact hbg)
        have G2 : Gl .string w2 (.slice (some ⟨g, 0, none⟩) k9 cap1) (S.words L) := by
          have e1 : (Lib.compact m ++ List.replicate (n - k9) []).map encStr = ((Lib.compact m ++ List.replicate (n - k9) []).map S.mk).map Value.string := by rw [List.map_map]; rfl
          rw [e1] at O2
          have := (Gl.owned O2).take k9 (by omega)
          rw [← List.map_take, List.take_left' hk9, unhide HWD] at this
          exact this
        clear O2 hw2 hw2' hlen B1 HB1 hsz1
        go_wp2_with (go_at_call 64; refine (may_any _ _ _ G2 _ (unhide HR)).mono ?_; rintro e w3 ⟨rfl, rfl⟩)
        go_ret2
        exact ⟨_, rfl, G2, B2⟩
end Go.Proofs.Ytefnkbgkcjhkoaa

/-
  The contract of slices.SortFunc at cards, with compare: a row of the call's own is put in order.
-/
namespace Go.Proofs.Ytefnkbgkcjhkoaa
set_option maxRecDepth 100000
open Go.Shelf Go.Sort Go.Proofs Go.RowKit

abbrev Cp := Cd × Pts
def noC : Cp := (⟨⟨#[]⟩, 0, []⟩, (none, 0, 0))

theorem Sort8.heap {w : World} {g n : Nat} {os : Array Obj} {cur : Array Value} {e : TypeId} {fr : Nat × Nat} (F : Array Value) (hb : w.heap[g]? = some (.cells cur e fr)) :
    (grow (putRow id (Sort.ahead w n) g 0 F) os).heap[g]? = some (.cells (putCells id 0 F cur) e fr) := by
  have hg : g < w.heap.size := (Array.getElem?_eq_some_iff.1 hb).1
  rw [heap_grow_old _ _ (by simpa using hg)]
  simp [putRow, mapBlock, Sort.ahead, Array.getElem?_modify, hb, onCells]

theorem Sort8.grown {w : World} {g n : Nat} {os : Array Obj} (F : Array Value) : w.grownBy (grow (putRow id (Sort.ahead w n) g 0 F) os) (some g) := by
  refine ⟨rfl, rfl, rfl, by simp, fun k hk hne => ?_⟩
  rw [heap_grow_old _ _ (by simpa using hk)]
  have : g ≠ k := fun e => hne (by rw [e])
  simp [putRow, mapBlock, Sort.ahead, Array.getElem?_modify, this]

theorem Sort8.take (cur F : Array Value) (h : F.size ≤ cur.size) : (putCells id 0 F cur).toList.take F.size = F.toList := by
  apply List.ext_getElem?
  intro j
  by_cases hj : j < F.size
  · rw [List.getElem?_take_of_lt hj, Array.getElem?_toList, Array.getElem?_toList]
    simp [putCells, hj, show j < cur.size by omega]
  · rw [List.getElem?_take_eq_none (by omega), List.getElem?_eq_none (by simp; omega)]

section
variable {α : Type} [Inhabited α]
theorem flatK_list (enc : α → List Value) (k : Nat) (hk : ∀ x, (enc x).length = k) (hk0 : 0 < k) (d : List α) : (flatK enc k d.toArray).toList = d.flatMap enc := by
  apply List.ext_getElem?
  intro t
  by_cases ht : t < d.length * k
  · have hq : t / k < d.length := Nat.div_lt_of_lt_mul (by rw [Nat.mul_comm]; exact ht)
    have hm : t % k < k := Nat.mod_lt _ hk0
    have h1 := flat_at hk (List.getElem?_eq_getElem hq) (t % k) hm
    rw [show t / k * k + t % k = t by rw [Nat.mul_comm]; exact Nat.div_add_mod t k] at h1
    rw [h1, Array.getElem?_toList, Array.getElem?_eq_getElem (by simpa using ht)]
    have h2 := get_flatK enc k d.toArray t (by simpa using ht)
    rw [getElem!_pos _ _ (by simpa using ht)] at h2
    rw [h2, List.getElem?_eq_getElem (by rw [hk]; exact hm)]
    simp [getElem!_pos, hq, hk, hm]
  · rw [List.getElem?_eq_none (by simp; omega), List.getElem?_eq_none (by rw [flat_len hk]; omega)]
end

theorem S.swo [Inhabited Cp] : SWO (ltOf fun x y : Cp => S.cmp x.1 y.1) where
  irrefl x := by show decide _ = false; rw [S.cmp_before]; exact S.before_irrefl _
  trans x y z h1 h2 := by
    have e : ∀ a b : Cp, ltOf (fun x y : Cp => S.cmp x.1 y.1) a b = S.before a.1 b.1 := fun a b => S.cmp_before a.1 b.1
    rw [e] at *
    exact S.before_trans h1 h2
  ntrans x y z h1 h2 := by
    have e : ∀ a b : Cp, ltOf (fun x y : Cp => S.cmp x.1 y.1) a b = S.before a.1 b.1 := fun a b => S.cmp_before a.1 b.1
    rw [e] at *
    cases h3 : S.before x.1 z.1 with
    | false => rfl
    | true =>
      exfalso
      rw [S.before_iff] at h3
      have h1' : ¬ S.before x.1 y.1 = true := by rw [h1]; decide
      have h2' : ¬ S.before y.1 z.1 = true := by rw [h2]; decide
      rw [S.before_iff] at h1' h2'
      rcases h3 with h3 | ⟨h3, h4⟩
      · have : y.1.key ≤ x.1.key := by omega
        have : z.1.key ≤ y.1.key := by omega
        omega
      · have a : ¬ K.lt x.1.id y.1.id = true := fun h => h1' (by
          rcases Int.lt_trichotomy x.1.key y.1.key with h5 | h5 | h5
          · exact .inl h5
          · exact .inr ⟨h5, h⟩
          · exact absurd (.inl (by omega)) h2')
        have b : ¬ K.lt y.1.id z.1.id = true := fun h => h2' (by
          rcases Int.lt_trichotomy y.1.key z.1.key with h5 | h5 | h5
          · exact .inl h5
          · exact .inr ⟨h5, h⟩
          · exact absurd (.inl (by omega)) h1')
        have a' : K.lt x.1.id y.1.id = false := by simpa using a
        have b' : K.lt y.1.id z.1.id = false := by simpa using b
        cases hyx : K.lt y.1.id x.1.id with
        | true =>
          have := K.lt_trans hyx h4
          rw [b'] at this
          cases this
        | false =>
          have e := K.lt_tri a' hyx
          rw [e] at h4
          rw [b'] at h4
          cases h4

/-- A row of cards of the call's own is put in order. -/
theorem sortC_any (B g cap : Nat) (ps : List Cp) (w : World) (h : w.ownsRow B 30 3 (.slice (some ⟨g, 0, none⟩) ps.length cap) ps.length (ps.flatMap encC)) (hu : S.Unlike (ps.map (·.1))) (hll : ps.length ≤ 1000) :
    Calls Try.prog 48 #[.slice (some ⟨g, 0, none⟩) ps.length cap, .func (.func 44) #[] #[]] w fun e w' =>
      e = .returned (.tuple #[]) ∧ ∃ ps' : List Cp, ps'.Perm ps ∧ S.Up (ps'.map (·.1)) ∧ w'.ownsRow B 30 3 (.slice (some ⟨g, 0, none⟩) ps.length cap) ps.length (ps'.flatMap encC) ∧ w.grownBy w' (some g) := by
  haveI : Inhabited Cp := ⟨noC⟩
  obtain ⟨cur, hb, hbg, hnc, hcm, hcs, htk⟩ : ∃ cur, w.heap[g]? = some (.cells cur 30 (0, 0)) ∧ B ≤ g ∧ ps.length ≤ cap ∧ cap ≤ maxLen ∧ cur.size = cap * 3 ∧ cur.toList.take (ps.length * 3) = ps.flatMap encC := by
    rcases h.2 with ⟨e, -⟩ | ⟨g', cap', cur, e, h1, h2, h3, h4, h5, h6⟩
    · cases e
    · simp only [Value.slice.injEq, Option.some.injEq, Addr.mk.injEq, and_true, true_and] at e
      obtain ⟨rfl, rfl⟩ := e
      exact ⟨cur, h2, h1, h3, h4, h5, h6⟩
  have hgs : g < w.heap.size := (Array.getElem?_eq_some_iff.1 hb).1
  have hH : HoldsK encC 3 w g 0 ps.toArray := by
    intro j hj
    rw [size_flatK] at hj
    simp only [List.size_toArray] at hj
    refine ⟨?_, by rw [Nat.zero_add]; exact h.frozenAt j⟩
    rw [Nat.zero_add, h.cellAt j hj, ← flatK_list encC 3 encC_len (by decide) ps, Array.getElem?_toList, Array.getElem?_eq_getElem (by simpa using hj), getElem!_pos _ _ (by simpa using hj)]
    rfl
  have eg : ∀ args w, (callFunc 44 args).run Try.prog w = .ok (.enter 44 args) w := enters_of Try.func44 (by kernel_rfl) rfl
  have hcmp : CmpLays Try.prog 44 #[] encC 3 (fun x y : Cp => S.cmp x.1 y.1) g 0 ps.toArray.size w := fun m os dk _ x y => compare_any x.1 y.1 x.2.1 y.2.1 x.2.2.1 x.2.2.2 y.2.2.1 y.2.2.2 _
  have hcon := AnyQ.slices_SortFunc Try.laysSortC 3 Try.isAgg30 Try.sizeOf30 encC encC_len encC_one (fun x y : Cp => S.cmp x.1 y.1) S.swo 44 #[] g 0 cap ps.toArray w eg hcmp hH hgs (by simp; omega)
  have hcon' : Calls Try.prog 48 #[.slice (some ⟨g, 0, none⟩) ps.toArray.size cap, .func (.func 44) #[] #[]] w _ := hcon
  rw [List.size_toArray] at hcon'
  refine hcon'.mono ?_
  rintro e w' ⟨he, d', n, os, ⟨hsz, -, hperm⟩, hsort, hw⟩
  simp only [List.size_toArray] at hsz hsort hperm
  have hd' : d'.toList.toArray = d' := by simp
  have hp : d'.toList.Perm ps := by
    have e1 : (d'.extract 0 ps.length).toList = d'.toList := by rw [← hsz]; simp
    have e2 : (ps.toArray.extract 0 ps.length).toList = ps := by simp
    rw [e1, e2] at hperm
    exact hperm
  have hF : (flatK encC 3 d').toList = d'.toList.flatMap encC := by
    have := flatK_list encC 3 encC_len (by decide) d'.toList
    rwa [hd'] at this
  have hlen : d'.toList.length = ps.length := by simpa using hsz
  refine ⟨he, d'.toList, hp, ?_, ⟨by rw [flat_len encC_len, hlen], .inr ⟨g, cap, putCells id 0 (flatK encC 3 d') cur, rfl, hbg, ?_, hnc, hcm, ?_, ?_⟩⟩, ?_⟩
  · unfold S.Up
    rw [List.pairwise_map, List.pairwise_iff_getElem]
    intro i j hi hj hij
    have h1 : ltOf (fun x y : Cp => S.cmp x.1 y.1) d'[j]! d'[i]! = false := hsort i j (by omega) hij (by omega)
    have h2 : S.before d'[j]!.1 d'[i]!.1 = false := by rw [← S.cmp_before]; exact h1
    have hi' : i < d'.size := by simpa using hi
    have hj' : j < d'.size := by simpa using hj
    rw [getElem!_pos d' i hi', getElem!_pos d' j hj'] at h2
    simp only [Array.getElem_toList]
    cases hb9 : S.before d'[i].1 d'[j].1 with
    | true => rfl
    | false =>
      exfalso
      have e9 := (S.before_tri hb9 h2).2
      have hu' : S.Unlike (d'.toList.map (·.1)) := hu.perm (hp.symm.map _)
      have := List.pairwise_iff_getElem.1 hu' i j (by simpa using hi') (by simpa using hj') hij
      simp at this
      exact this e9
  · rw [hw]
    exact Sort8.heap _ hb
  · simp [putCells, hcs]
  · have := Sort8.take cur (flatK encC 3 d') (by rw [size_flatK, hsz, hcs]; omega)
    rw [size_flatK, hsz, hF] at this
    exact this
  · rw [hw]
    exact Sort8.grown _
theorem sortC_none (p : Option Addr) (cap : Nat) (fv : Value) (w : World) : Calls Try.prog 48 #[.slice p 0 cap, fv] w fun e w' => e = .returned (.tuple #[]) ∧ w' = w := AnyF.slices_SortFunc_none Try.laysSortC p cap fv w
theorem sortC_all (B : Nat) (v : Value) (ps : List Cp) (w : World) (h : w.ownsRow B 30 3 v ps.length (ps.flatMap encC)) (hu : S.Unlike (ps.map (·.1))) (hll : ps.length ≤ 1000) :
    Calls Try.prog 48 #[v, .func (.func 44) #[] #[]] w fun e w' =>
      e = .returned (.tuple #[]) ∧ ∃ ps' : List Cp, ps'.Perm ps ∧ S.Up (ps'.map (·.1)) ∧ w'.ownsRow B 30 3 v ps.length (ps'.flatMap encC) ∧ w.grownBy w' v.ownBlock := by
  rcases id h.2 with ⟨rfl, h0⟩ | ⟨g, cap, cur, rfl, -⟩
  · have hp : ps = [] := List.eq_nil_of_length_eq_zero h0
    subst hp
    refine (sortC_none none 0 _ w).mono ?_
    rintro e w' ⟨rfl, rfl⟩
    exact ⟨rfl, [], List.Perm.refl _, .nil, h, grown_below (Below.refl _ _) _⟩
  · exact sortC_any B g cap ps w h hu hll
end Go.Proofs.Ytefnkbgkcjhkoaa

/-
  The contract of Build: the segment of cards, or none.
-/
namespace Go.Proofs.Ytefnkbgkcjhkoaa
set_option maxRecDepth 100000
open Go.RowKit

namespace S
/-- The segment, whether it is sorted, and the error. -/
def build (l : List Cd) (so : Bool) : Sg × Bool × Int :=
  if mayAll l = false then (Sg.none, false, 1)
  else if 64 < l.length then (Sg.none, false, 8)
  else if D.may (words l) = false then (Sg.none, false, 8)
  else (seg (if so = true then srt l else l), so, 0)
end S

/-- What Build tells. -/
def BuildEnd (w : World) (r : Sg × Bool × Int) (e : Ending) (w' : World) : Prop :=
  ∃ iv kv lv tv, e = .returned (.tuple #[.agg #[iv, kv, lv, tv, .bool r.2.1], .int .i64 r.2.2]) ∧ Sv w' iv kv lv tv r.1 ∧ Below w.heap.size w w'

/-- The five stores into the result. -/
def five (w : World) (b : Nat) (a0 a1 a2 a3 a4 : Value) : World := ((((w.setCell ⟨b, 0, none⟩ a0).setCell ⟨b, 1, none⟩ a1).setCell ⟨b, 2, none⟩ a2).setCell ⟨b, 3, none⟩ a3).setCell ⟨b, 4, none⟩ a4
theorem five_below {w w1 : World} {b : Nat} (a0 a1 a2 a3 a4 : Value) (h : Below w.heap.size w w1) (hb : w.heap.size ≤ b) : Below w.heap.size w (five w1 b a0 a1 a2 a3 a4) :=
  ((((h.setCell hb _).setCell hb _).setCell hb _).setCell hb _).setCell hb _

theorem build_err {w w1 : World} {r : Sg × Bool × Int} {n : Int} {b : Nat} (a0 a1 a2 a3 a4 : Value) (h : Below w.heap.size w w1) (hb : w.heap.size ≤ b) (hr : r = (Sg.none, false, n)) :
    BuildEnd w r (.returned (.tuple #[.agg #[.slice none 0 0, .slice none 0 0, .slice none 0 0, .slice none 0 0, .bool false], .int .i64 n])) (five w1 b a0 a1 a2 a3 a4) := by
  subst hr
  exact ⟨_, _, _, _, rfl, Sv.none _, five_below _ _ _ _ _ h hb⟩

theorem own_five {w : World} {B b : Nat} {e : TypeId} {k n : Nat} {v : Value} {xs : List Value} (h : w.ownsRow B e k v n xs) (hb : b < B) (a0 a1 a2 a3 a4 : Value) : (five w b a0 a1 a2 a3 a4).ownsRow B e k v n xs := by
  have key : ∀ (w : World) (j : Nat) (u : Value), w.ownsRow B e k v n xs → (w.setCell ⟨b, j, none⟩ u).ownsRow B e k v n xs := fun w j u h => own_set h (fun g hg e => by have := (h.lt g hg).1; simp only at e; omega) u
  exact key _ _ _ (key _ _ _ (key _ _ _ (key _ _ _ (key _ _ _ h))))
theorem ts_five {w : World} {B b : Nat} {v : Value} {ws : List ByteArray} {l : List Cd} (h : TS B w v ws l) (hb : b < B) (a0 a1 a2 a3 a4 : Value) : TS B (five w b a0 a1 a2 a3 a4) v ws l :=
  ((((h.set (p := ⟨b, 0, none⟩) hb _).set (p := ⟨b, 1, none⟩) hb _).set (p := ⟨b, 2, none⟩) hb _).set (p := ⟨b, 3, none⟩) hb _).set (p := ⟨b, 4, none⟩) hb _

theorem build_end {w w5 wr : World} {r : Sg × Bool × Int} {LL : List Cd} {ws ids : List ByteArray} {keys lens : List Int} {vi vk vl tv : Value} {so : Bool} {B5 : Nat} (hbx : Bx w5.heap.size wr vi vk vl tv so ids keys lens) (hT : TS B5 wr tv ws LL) (hB5 : w.heap.size < B5) (hbel : Below w5.heap.size w5 wr) (BB5 : Below w.heap.size w w5)
    (hZ5 : w.heap.size < w5.heap.size) (hI : ids = LL.map (·.id)) (hK : keys = LL.map (·.key)) (hL : lens = LL.map (fun c => (c.w.length : Int))) (hr : S.words LL = ws ∧ S.seg LL = r.1 ∧ r.2.1 = so ∧ r.2.2 = 0) :
    BuildEnd w r (.returned (.tuple #[.agg #[vi, vk, vl, tv, .bool so], .int .i64 0])) (five wr w.heap.size vi vk vl tv (.bool so)) := by
  obtain ⟨h1, h2, h3, h4⟩ := hr
  refine ⟨vi, vk, vl, tv, by rw [h3, h4], ?_, five_below _ _ _ _ _ (below_trans' BB5 hbel) (Nat.le_refl _)⟩
  rw [← h2]
  refine ⟨?_, ?_, ?_, ?_⟩
  · have := Gl.owned (own_five hbx.2.1 (b := w.heap.size) (by omega) vi vk vl tv (.bool so))
    rw [hI] at this
    exact this
  · have := Sl.owned (own_five hbx.2.2.1 (b := w.heap.size) (by omega) vi vk vl tv (.bool so))
    rw [hK] at this
    exact this
  · have := Sl.owned (own_five hbx.2.2.2.1 (b := w.heap.size) (by omega) vi vk vl tv (.bool so))
    rw [hL] at this
    exact this
  · have := (ts_five hT hB5 vi vk vl tv (.bool so)).ts
    rw [← h1] at this
    exact this

set_option maxRecDepth 100000 in
set_option maxHeartbeats 4000000 in
theorem build_any (v : Value) (L : List Cd) (so : Bool) (w : World) (h : Cs w v L) (hlen : L.length ≤ 4398046511104) (r : Sg × Bool × Int) (hr : S.build L so = r) :
    Calls Try.prog 27 #[v, .bool so] w (BuildEnd w r) := by
  unfold S.build at hr
  obtain ⟨i9, hi9, hz90, hz91, hz92⟩ := info_parts Try.infoS
  obtain ⟨j0, hj, hj0, hj1, hj2⟩ := info_parts Try.info3
  obtain ⟨W, hW⟩ : ∃ W, W = w.alloc (.cells #[.slice none 0 0, .slice none 0 0, .slice none 0 0, .slice none 0 0, .bool false] 44) := ⟨_, rfl⟩
  have B0 : Below w.heap.size w W := by rw [hW]; exact below_alloc _ _
  have X0 : W.heap[w.heap.size]? = some (.cells #[.slice none 0 0, .slice none 0 0, .slice none 0 0, .slice none 0 0, .bool false] 44 (0, 0)) := by rw [hW]; exact heap_alloc_new w _
  have hZ : w.heap.size < W.heap.size := by rw [hW]; simp
  have HW := hide hW
  have H0 := h.below B0
  have hv := h
  obtain ⟨a, cap, rfl, hl, hm, hna, -⟩ := h.open
  clear hW h
  cases hma : S.mayAll L with
  | false =>
    rw [if_pos hma] at hr
    have HR := hide hr.symm
    have C1 := mayAll_b _ L W H0 hlen false hma
    clear hr hma
    go_enter Try.func27, Try.ntmps27
    go_wp2_with fail
    rw [← unhide HW]
    refine C1.mono ?_
    rintro e w1 ⟨rfl, B1⟩
    have X1 := box_below X0 B1
    have BB := below_trans' B0 B1
    have x0 := box_cell X1 (j := 0) rfl
    have x1 := box_cell X1 (j := 1) rfl
    have x2 := box_cell X1 (j := 2) rfl
    have x3 := box_cell X1 (j := 3) rfl
    have x4 := box_cell X1 (j := 4) rfl
    have f0 := bfro X1 0
    have f1 := bfro X1 1
    have f2 := bfro X1 2
    have f3 := bfro X1 3
    have f4 := bfro X1 4
    clear X1 X0 B1 C1
    go_wp2
    exact bodyPost_ret (v := .tuple #[.agg #[.slice none 0 0, .slice none 0 0, .slice none 0 0, .slice none 0 0, .bool false], .int .i64 1]) (by simp [results, Try.results27, go_sem, x0, x1, x2, x3, x4]) rfl (build_err _ _ _ _ _ BB (Nat.le_refl _) (unhide HR))
  | true =>
    rw [if_neg (by rw [hma]; decide)] at hr
    have C1 := mayAll_b _ L W H0 hlen true hma
    have hall := hma
    unfold S.mayAll at hall
    simp only [Bool.and_eq_true, decide_eq_true_eq] at hall
    obtain ⟨hfit, hnd⟩ := hall
    by_cases h64 : 64 < L.length
    · rw [if_pos h64] at hr
      have HR := hide hr.symm
      clear hr hma hfit hnd
      go_enter Try.func27, Try.ntmps27
      go_wp2_with fail
      rw [← unhide HW]
      refine C1.mono ?_
      rintro e w1 ⟨rfl, B1⟩
      have X1 := box_below X0 B1
      have BB := below_trans' B0 B1
      have x0 := box_cell X1 (j := 0) rfl
      have x1 := box_cell X1 (j := 1) rfl
      have x2 := box_cell X1 (j := 2) rfl
      have x3 := box_cell X1 (j := 3) rfl
      have x4 := box_cell X1 (j := 4) rfl
      have f0 := bfro X1 0
      have f1 := bfro X1 1
      have f2 := bfro X1 2
      have f3 := bfro X1 3
      have f4 := bfro X1 4
      clear X1 X0 B1 C1
      go_wp2
      exact bodyPost_ret (v := .tuple #[.agg #[.slice none 0 0, .slice none 0 0, .slice none 0 0, .slice none 0 0, .bool false], .int .i64 8]) (by simp [results, Try.results27, go_sem, x0, x1, x2, x3, x4]) rfl (build_err _ _ _ _ _ BB (Nat.le_refl _) (unhide HR))
    · rw [if_neg h64] at hr
      have hll : L.length ≤ 64 := by omega
      have hcw : ∀ c ∈ L, c.w.length ≤ 120 := fun c hc => by
        have := List.all_eq_true.1 hfit c hc
        simp only [S.fits, Bool.and_eq_true, decide_eq_true_eq] at this
        omega
      cases hmw : D.may (S.words L) with
      | false =>
        rw [if_pos hmw] at hr
        have HR := hide hr.symm
        have HM := hide hmw
        clear hr hma hfit hnd hmw
        go_enter Try.func27, Try.ntmps27
        go_wp2_with fail
        rw [← unhide HW]
        refine C1.mono ?_
        rintro e w1 ⟨rfl, B1⟩
        have X1 := box_below X0 B1
        have BB := below_trans' B0 B1
        have H1 := H0.below B1
        clear X0 B1 C1
        go_wp2_with fail
        refine (unlikeWords_any _ _ _ H1 hll hcw _ (unhide HM)).mono ?_
        rintro e w2 ⟨v2, rfl, G2, B2⟩
        have X2 := box_below X1 B2
        have BB2 := below_trans' BB B2
        have x0 := box_cell X2 (j := 0) rfl
        have x1 := box_cell X2 (j := 1) rfl
        have x2 := box_cell X2 (j := 2) rfl
        have x3 := box_cell X2 (j := 3) rfl
        have x4 := box_cell X2 (j := 4) rfl
        have f0 := bfro X2 0
        have f1 := bfro X2 1
        have f2 := bfro X2 2
        have f3 := bfro X2 3
        have f4 := bfro X2 4
        clear X2 X1 B2 BB G2 H1
        go_wp2
        exact bodyPost_ret (v := .tuple #[.agg #[.slice none 0 0, .slice none 0 0, .slice none 0 0, .slice none 0 0, .bool false], .int .i64 8]) (by simp [results, Try.results27, go_sem, x0, x1, x2, x3, x4]) rfl (build_err _ _ _ _ _ BB2 (Nat.le_refl _) (unhide HR))
      | true =>
        rw [if_neg (by rw [hmw]; decide)] at hr
        have HM := hide hmw
        have hri : D.Rise (S.words L) := S.words_rise L
        have hwl : (S.words L).length ≤ 200 := D.may_len hmw
        have hwz : ∀ x ∈ S.words L, x.size ≤ 32 := fun x hx => (D.may_size hmw x hx).2
        have hin : ∀ c ∈ L, ∀ x ∈ c.w, x ∈ S.words L := fun c hc x hx => S.mem_words.2 ⟨c, hc, hx⟩
        have hun : S.Unlike L := by
          have := hnd
          unfold List.Nodup at this
          rw [List.pairwise_map] at this
          exact this
        clear hma hmw
        cases so with
        | false =>
          rw [if_neg (by decide)] at hr
          have HR := hide hr.symm
          clear hr
          go_enter Try.func27, Try.ntmps27
          go_wp2_with fail
          rw [← unhide HW]
          refine C1.mono ?_
          rintro e w1 ⟨rfl, B1⟩
          have X1 := box_below X0 B1
          have BB := below_trans' B0 B1
          have H1 := H0.below B1
          have hs1 := B1.size
          clear B1
          go_wp2_with fail
          refine (unlikeWords_any _ _ _ H1 hll hcw _ (unhide HM)).mono ?_
          rintro e w2 ⟨v2, rfl, G2, B2⟩
          have X2 := box_below X1 B2
          have BB2 := below_trans' BB B2
          have H2 := H1.below B2
          have hs2 := B2.size
          clear X1 B2 BB H1
          go_wp2_with fail
          refine (terms_any _ _ _ _ _ H2 G2 hri hll hwl hcw hin hwz).mono ?_
          rintro e w5 ⟨tv, rfl, T5, B5⟩
          have X5 := box_below X2 B5
          have BB5 := below_trans' BB2 B5
          have hs5 := B5.size
          obtain ⟨tn, htn⟩ : ∃ tn, (S.words L).length = tn := ⟨_, rfl⟩
          obtain ⟨ta, tc, htv, -⟩ := id T5.ts.open
          rw [List.length_map, htn] at htv
          subst htv
          have HNI : Hid ((S.words L = S.words L) ∧ S.seg L = r.1 ∧ r.2.1 = false ∧ r.2.2 = 0) := by
            show _ ∧ _
            rw [unhide HR]; exact ⟨rfl, rfl, rfl, rfl⟩
          have hLL : L.length ≤ 64 := hll
          have hZ5 : w.heap.size < w5.heap.size := by omega
          have hB5 : w.heap.size < w2.heap.size + 1 := by omega
          obtain ⟨a', cap', hv', -, -, -, hoL⟩ := (H2.below B5).open
          simp only [Value.slice.injEq, true_and] at hv'
          obtain ⟨rfl, rfl⟩ := hv'
          clear X2 B5 H2 G2 HM BB2 X0 H0 C1
          have HT5 := hide T5
          have HX5 := hide X5
          clear T5 X5
          go_wp2
          go_loopw [39] (fun iv wr => ∃ (k : Nat) (vi vk vl : Value) (ids : List ByteArray) (keys lens : List Int), k ≤ L.length ∧ iv = .int .i64 k ∧ Hid (ids = (L.take k).map (·.id)) ∧ Hid (keys = (L.take k).map (·.key)) ∧ Hid (lens = (L.take k).map (fun c => (c.w.length : Int))) ∧ ids.length ≤ k ∧ keys.length ≤ k ∧ lens.length ≤ k ∧ Bx w5.heap.size wr vi vk vl (.slice ta tn tc) false ids keys lens ∧ Below w5.heap.size w5 wr ∧ w5.heap.size < wr.heap.size) (fun iv _ => L.length - (intOf iv).toNat)
          case atStart => exact ⟨0, _, _, _, [], [], [], Nat.zero_le _, rfl, rfl, rfl, rfl, Nat.zero_le _, Nat.zero_le _, Nat.zero_le _, ⟨heap_alloc_new w5 _, World.ownsRow_nil _ _ _ _, World.ownsRow_nil _ _ _ _, World.ownsRow_nil _ _ _ _, fun b hb => by cases hb⟩, below_alloc _ _, by simp⟩
          case round =>
            obtain ⟨k, vi, vk, vl, ids, keys, lens, hk, rfl, HI, HK, HLN, hi1, hk1, hl1, hbx, hbel, hsz⟩ := hrel
            by_cases hlt : k < L.length
            · obtain ⟨b, off, rfl, hb, hc⟩ := hoL (by omega)
              obtain ⟨c, hx⟩ : ∃ c, L[k]? = some c := ⟨L[k]'(by omega), List.getElem?_eq_getElem _⟩
              obtain ⟨wa, wc, c0, c1, c2, -⟩ := hc k c hx
              have d0 := (hbel.cell (p := ⟨b, off + k * 3, none⟩) hb).trans c0
              have d1 := (hbel.cell (p := ⟨b, off + k * 3 + 1, none⟩) hb).trans c1
              have d2 := (hbel.cell (p := ⟨b, off + k * 3 + 2, none⟩) hb).trans c2
              have HTS := hide (take_snoc8 hx)
              have P0 := hbx.below (below_alloc wr (.cells #[.string c.id, .int .i64 c.key, .slice wa c.w.length wc] 30))
              have CB0 : (wr.alloc (.cells #[.string c.id, .int .i64 c.key, .slice wa c.w.length wc] 30)).heap[wr.heap.size]? = some (.cells #[.string c.id, .int .i64 c.key, .slice wa c.w.length wc] 30 (0, 0)) := heap_alloc_new wr _
              have bel0 : Below w5.heap.size w5 (wr.alloc (.cells #[.string c.id, .int .i64 c.key, .slice wa c.w.length wc] 30)) := hbel.trans ((below_alloc wr _).mono (by omega))
              have hs0 : w5.heap.size ≤ (wr.alloc (.cells #[.string c.id, .int .i64 c.key, .slice wa c.w.length wc] 30)).heap.size := by simp; omega
              have hcbS : wr.heap.size ≠ w5.heap.size := by omega
              have y0 := box_cell hbx.1 (j := 0) rfl
              clear hc c0 c1 c2 hx hbx hbel
              go_wp2_with (first
                | (at_builtin; refine append_oneL (f := Value.string) rfl _ _ 28 rfl Try.underlying28 hi9 hz90 hz91 hz92 rfl (fun _ => rfl) (pre := ids) (v := vi) c.id rfl rfl (by simp) P0.2.1 (by simp; omega) (by omega) (by omega) ?_
                   intro g1 q1 u1w O1 g1' l1
                   have K1 := P0.ids O1 g1'
                   have S1 := Bx.grow (j := 0) (u := .slice (some ⟨g1, 0, none⟩) (ids.length + 1) q1) P0.2.1 bel0 hs0 g1'
                   have C1c := card_grow (S := w5.heap.size) (j := 0) (u := .slice (some ⟨g1, 0, none⟩) (ids.length + 1) q1) CB0 P0.2.1 (by decide) g1' hcbS
                   have bb1 := box_grown P0.1 g1' (row_ne P0.2.1)
                   have bc1 := box_grown CB0 g1' (own_ne_box P0.2.1 CB0 (by decide))
                   have ya1 := box_cell bb1 (j := 0) rfl
                   have yb1 := box_cell bb1 (j := 1) rfl
                   have yc1 := box_cell bb1 (j := 2) rfl
                   have fa1 := bfro bb1 0
                   have za1 := box_cell bc1 (j := 1) rfl
                   have zb1 := box_cell bc1 (j := 2) rfl
                   have hz1 : w5.heap.size < u1w.heap.size := Nat.lt_of_lt_of_le (by simp; omega) g1'.size)
                | (at_builtin; refine append_oneL (f := Value.int .i64) rfl _ _ 41 rfl Try.underlying41 hj hj0 hj1 hj2 rfl (fun _ => rfl) (pre := keys) (v := vk) c.key rfl rfl (by simp) K1.2.2.1 (by simp; omega) (by omega) (by omega) ?_
                   intro g2 q2 u2w O2 g2' l2
                   have K2 := K1.keys O2 g2' l2
                   have S2 := Bx.grow (j := 1) (u := .slice (some ⟨g2, 0, none⟩) (keys.length + 1) q2) K1.2.2.1 S1 (by simp; omega) g2'
                   have C2c := card_grow (S := w5.heap.size) (j := 1) (u := .slice (some ⟨g2, 0, none⟩) (keys.length + 1) q2) C1c K1.2.2.1 (by decide) g2' hcbS
                   have bb2 := box_grown K1.1 g2' (row_ne K1.2.2.1)
                   have bc2 := box_grown C1c g2' (own_ne_box K1.2.2.1 C1c (by decide))
                   have ya2 := box_cell bb2 (j := 0) rfl
                   have yb2 := box_cell bb2 (j := 1) rfl
                   have yc2 := box_cell bb2 (j := 2) rfl
                   have fa2 := bfro bb2 1
                   have za2 := box_cell bc2 (j := 1) rfl
                   have zb2 := box_cell bc2 (j := 2) rfl
                   have hz2 : w5.heap.size < u2w.heap.size := Nat.lt_of_lt_of_le (by simp; omega) g2'.size)
                | (at_builtin; refine append_oneL (f := Value.int .i64) rfl _ _ 41 rfl Try.underlying41 hj hj0 hj1 hj2 rfl (fun _ => rfl) (pre := lens) (v := vl) (c.w.length : Int) rfl rfl (by simp) K2.2.2.2.1 (by simp; omega) (by omega) (by omega) ?_
                   intro g3 q3 u3w O3 g3' l3
                   have K3 := K2.lens O3 g3' l3
                   have S3 := Bx.grow (j := 2) (u := .slice (some ⟨g3, 0, none⟩) (lens.length + 1) q3) K2.2.2.2.1 S2 (by simp; omega) g3'
                   have C3c := card_grow (S := w5.heap.size) (j := 2) (u := .slice (some ⟨g3, 0, none⟩) (lens.length + 1) q3) C2c K2.2.2.2.1 (by decide) g3' hcbS
                   have bb3 := box_grown K2.1 g3' (row_ne K2.2.2.2.1)
                   have bc3 := box_grown C2c g3' (own_ne_box K2.2.2.2.1 C2c (by decide))
                   have ya3 := box_cell bb3 (j := 0) rfl
                   have yb3 := box_cell bb3 (j := 1) rfl
                   have yc3 := box_cell bb3 (j := 2) rfl
                   have fa3 := bfro bb3 2
                   have za3 := box_cell bc3 (j := 1) rfl
                   have zb3 := box_cell bc3 (j := 2) rfl
                   have hz3 : w5.heap.size < u3w.heap.size := Nat.lt_of_lt_of_le (by simp; omega) g3'.size))
              have HK3 := hide K3
              have HS3 := hide S3
              clear K3 S3 C3c bb3 bc3 ya3 yb3 yc3 fa3 za3 zb3 K2 S2 C2c bb2 bc2 ya2 yb2 yc2 fa2 za2 zb2 K1 S1 C1c bb1 bc1 ya1 yb1 yc1 fa1 za1 zb1 P0 CB0 bel0
              go_roundw
              case rel =>
                refine ⟨k + 1, _, _, _, ids ++ [c.id], keys ++ [c.key], lens ++ [(c.w.length : Int)], by omega, by go_num, ?_, ?_, ?_, by simp; omega, by simp; omega, by simp; omega, unhide HK3, unhide HS3, by simp; omega⟩
                · show _ = _
                  rw [unhide HTS, List.map_append, ← unhide HI]; rfl
                · show _ = _
                  rw [unhide HTS, List.map_append, ← unhide HK]; rfl
                · show _ = _
                  rw [unhide HTS, List.map_append, ← unhide HLN]; rfl
              case measure => simp [intOf]; omega
            · have hkl : k = L.length := by omega
              have X9 := (hbel.block _ hZ5).trans (unhide HX5)
              have T9 := (unhide HT5).below hbel
              have s0 := box_cell hbx.1 (j := 0) rfl
              have s1 := box_cell hbx.1 (j := 1) rfl
              have s2 := box_cell hbx.1 (j := 2) rfl
              have s3 := box_cell hbx.1 (j := 3) rfl
              have s4 := box_cell hbx.1 (j := 4) rfl
              obtain ⟨ia, ic, hvi, -⟩ := id (Gl.owned hbx.2.1)
              obtain ⟨ka, kc, hvk, -⟩ := id (Sl.owned hbx.2.2.1)
              obtain ⟨lna, lnc, hvl, -⟩ := id (Sl.owned hbx.2.2.2.1)
              subst hvi hvk hvl
              have x0 := box_cell X9 (j := 0) rfl
              have x1 := box_cell X9 (j := 1) rfl
              have x2 := box_cell X9 (j := 2) rfl
              have x3 := box_cell X9 (j := 3) rfl
              have x4 := box_cell X9 (j := 4) rfl
              have f0 := bfro X9 0
              have f1 := bfro X9 1
              have f2 := bfro X9 2
              have f3 := bfro X9 3
              have f4 := bfro X9 4
              have HE := hide (build_end hbx T9 hB5 hbel BB5 hZ5 (by rw [unhide HI, List.take_of_length_le (by omega)]) (by rw [unhide HK, List.take_of_length_le (by omega)]) (by rw [unhide HLN, List.take_of_length_le (by omega)]) ⟨by first | rfl | exact (unhide HNI).1, (unhide HNI).2⟩)
              clear X9 T9 hbx hbel
              go_wp2
              exact bodyPost_ret (v := .tuple #[.agg #[.slice ia ids.length ic, .slice ka keys.length kc, .slice lna lens.length lnc, .slice ta tn tc, .bool false], .int .i64 0]) (by simp [results, Try.results27, go_sem, x0, x1, x2, x3, x4]) rfl (unhide HE)
        | true =>
          rw [if_pos rfl] at hr
          have HR := hide hr.symm
          clear hr
          go_enter Try.func27, Try.ntmps27
          go_wp2_with fail
          rw [← unhide HW]
          refine C1.mono ?_
          rintro e w1 ⟨rfl, B1⟩
          have X1 := box_below X0 B1
          have BB := below_trans' B0 B1
          have H1 := H0.below B1
          have hs1 := B1.size
          clear B1
          go_wp2_with fail
          refine (unlikeWords_any _ _ _ H1 hll hcw _ (unhide HM)).mono ?_
          rintro e w2 ⟨v2, rfl, G2, B2⟩
          have X2 := box_below X1 B2
          have BB2 := below_trans' BB B2
          have H2 := H1.below B2
          have hs2 := B2.size
          clear X1 B2 BB H1
          obtain ⟨ps, KP, hps, WS⟩ := H2
          have hpl : ps.length = L.length := by rw [← hps, List.length_map]
          go_wp2_with fail
          refine (cloneC_any _ ps _ KP (by omega)).mono ?_
          rintro e w3 ⟨v3, rfl, O3, B3⟩
          obtain ⟨n, hn⟩ : ∃ n, ps.length = n := ⟨_, rfl⟩
          obtain ⟨a3, c3, hv3, -⟩ := id (Kl.owned encC_len (by decide) O3)
          rw [hn] at hv3
          subst hv3
          have X3 := box_below X2 B3
          have BB3 := below_trans' BB2 B3
          have hs3 := B3.size
          have hu3 : S.Unlike (ps.map (·.1)) := by rw [hps]; exact hun
          have CS := sortC_all _ _ ps w3 O3 hu3 (by omega)
          clear X2 BB2 KP
          go_wp2_with fail
          refine CS.mono ?_
          rintro e w4 ⟨rfl, ps', hperm, hup, O4, g4⟩
          have B4 : Below w2.heap.size w3 w4 := ⟨g4.os, g4.tape, g4.output, g4.size, fun j hj => g4.block j (by omega) (fun e => by have := (O3.lt j e.symm).1; omega)⟩
          have B24 : Below w2.heap.size w2 w4 := B3.trans B4
          have BB4 : Below w.heap.size w w4 := BB3.trans (B4.mono (by omega))
          have X4 : w4.heap[w.heap.size]? = some (.cells #[.slice none 0 0, .slice none 0 0, .slice none 0 0, .slice none 0 0, .bool false] 44 (0, 0)) := (B4.block _ (by omega)).trans X3
          have G4 := G2.below B24
          have hs4 := B4.size
          obtain ⟨L2, hL2⟩ : ∃ L2, ps'.map (·.1) = L2 := ⟨_, rfl⟩
          have hp2 : L2.Perm L := by rw [← hL2, ← hps]; exact hperm.map _
          have hsrt : S.srt L = L2 := by
            rw [hL2] at hup
            exact S.srt_is hun hup hp2
          have H4 : Cs w4 (.slice a3 n c3) L2 := by
            rw [← hL2]
            exact Cs.own O4 (fun p hp => (WS p (hperm.subset hp)).below B24)
          have hLL : L2.length = n := by rw [hp2.length_eq, ← hpl, hn]
          have hn64 : n ≤ 64 := by omega
          clear X3 BB3 G2 B3 B4 B24 g4 O3 O4 CS hup
          go_wp2_with fail
          refine (terms_any _ _ _ _ _ H4 G4 hri (by omega) hwl (fun c hc => hcw c (hp2.subset hc)) (fun c hc => hin c (hp2.subset hc)) hwz).mono ?_
          rintro e w5 ⟨tv, rfl, T5, B5⟩
          have X5 := box_below X4 B5
          have BB5 := below_trans' BB4 B5
          have hs5 := B5.size
          clear X4 BB4
          obtain ⟨tn, htn⟩ : ∃ tn, (S.words L).length = tn := ⟨_, rfl⟩
          obtain ⟨ta, tc, htv, -⟩ := id T5.ts.open
          rw [List.length_map, htn] at htv
          subst htv
          have HNI : Hid ((S.words L2 = S.words L) ∧ S.seg L2 = r.1 ∧ r.2.1 = true ∧ r.2.2 = 0) := by
            show _ ∧ _
            rw [unhide HR, ← hsrt]; exact ⟨S.words_perm (S.srt_perm L), rfl, rfl, rfl⟩
          have hZ5 : w.heap.size < w5.heap.size := by omega
          have hB5 : w.heap.size < w4.heap.size + 1 := by omega
          obtain ⟨a', cap', hv', -, -, -, hoL⟩ := (H4.below B5).open
          simp only [Value.slice.injEq] at hv'
          obtain ⟨rfl, -, rfl⟩ := hv'
          clear B5 H4 G4 HM X0 H0 C1 hsrt
          have HT5 := hide T5
          have HX5 := hide X5
          clear T5 X5
          go_wp2
          go_loopw [39] (fun iv wr => ∃ (k : Nat) (vi vk vl : Value) (ids : List ByteArray) (keys lens : List Int), k ≤ n ∧ iv = .int .i64 k ∧ Hid (ids = (L2.take k).map (·.id)) ∧ Hid (keys = (L2.take k).map (·.key)) ∧ Hid (lens = (L2.take k).map (fun c => (c.w.length : Int))) ∧ ids.length ≤ k ∧ keys.length ≤ k ∧ lens.length ≤ k ∧ Bx w5.heap.size wr vi vk vl (.slice ta tn tc) true ids keys lens ∧ Below w5.heap.size w5 wr ∧ w5.heap.size < wr.heap.size) (fun iv _ => n - (intOf iv).toNat)
          case atStart => exact ⟨0, _, _, _, [], [], [], Nat.zero_le _, rfl, rfl, rfl, rfl, Nat.zero_le _, Nat.zero_le _, Nat.zero_le _, ⟨heap_alloc_new w5 _, World.ownsRow_nil _ _ _ _, World.ownsRow_nil _ _ _ _, World.ownsRow_nil _ _ _ _, fun b hb => by cases hb⟩, below_alloc _ _, by simp⟩
          case round =>
            obtain ⟨k, vi, vk, vl, ids, keys, lens, hk, rfl, HI, HK, HLN, hi1, hk1, hl1, hbx, hbel, hsz⟩ := hrel
            by_cases hlt : k < n
            · obtain ⟨b, off, rfl, hb, hc⟩ := hoL (by omega)
              obtain ⟨c, hx⟩ : ∃ c, L2[k]? = some c := ⟨L2[k]'(by omega), List.getElem?_eq_getElem _⟩
              obtain ⟨wa, wc, c0, c1, c2, -⟩ := hc k c hx
              have d0 := (hbel.cell (p := ⟨b, off + k * 3, none⟩) hb).trans c0
              have d1 := (hbel.cell (p := ⟨b, off + k * 3 + 1, none⟩) hb).trans c1
              have d2 := (hbel.cell (p := ⟨b, off + k * 3 + 2, none⟩) hb).trans c2
              have HTS := hide (take_snoc8 hx)
              have P0 := hbx.below (below_alloc wr (.cells #[.string c.id, .int .i64 c.key, .slice wa c.w.length wc] 30))
              have CB0 : (wr.alloc (.cells #[.string c.id, .int .i64 c.key, .slice wa c.w.length wc] 30)).heap[wr.heap.size]? = some (.cells #[.string c.id, .int .i64 c.key, .slice wa c.w.length wc] 30 (0, 0)) := heap_alloc_new wr _
              have bel0 : Below w5.heap.size w5 (wr.alloc (.cells #[.string c.id, .int .i64 c.key, .slice wa c.w.length wc] 30)) := hbel.trans ((below_alloc wr _).mono (by omega))
              have hs0 : w5.heap.size ≤ (wr.alloc (.cells #[.string c.id, .int .i64 c.key, .slice wa c.w.length wc] 30)).heap.size := by simp; omega
              have hcbS : wr.heap.size ≠ w5.heap.size := by omega
              have y0 := box_cell hbx.1 (j := 0) rfl
              clear hc c0 c1 c2 hx hbx hbel
              go_wp2_with (first
                | (at_builtin; refine append_oneL (f := Value.string) rfl _ _ 28 rfl Try.underlying28 hi9 hz90 hz91 hz92 rfl (fun _ => rfl) (pre := ids) (v := vi) c.id rfl rfl (by simp) P0.2.1 (by simp; omega) (by omega) (by omega) ?_
                   intro g1 q1 u1w O1 g1' l1
                   have K1 := P0.ids O1 g1'
                   have S1 := Bx.grow (j := 0) (u := .slice (some ⟨g1, 0, none⟩) (ids.length + 1) q1) P0.2.1 bel0 hs0 g1'
                   have C1c := card_grow (S := w5.heap.size) (j := 0) (u := .slice (some ⟨g1, 0, none⟩) (ids.length + 1) q1) CB0 P0.2.1 (by decide) g1' hcbS
                   have bb1 := box_grown P0.1 g1' (row_ne P0.2.1)
                   have bc1 := box_grown CB0 g1' (own_ne_box P0.2.1 CB0 (by decide))
                   have ya1 := box_cell bb1 (j := 0) rfl
                   have yb1 := box_cell bb1 (j := 1) rfl
                   have yc1 := box_cell bb1 (j := 2) rfl
                   have fa1 := bfro bb1 0
                   have za1 := box_cell bc1 (j := 1) rfl
                   have zb1 := box_cell bc1 (j := 2) rfl
                   have hz1 : w5.heap.size < u1w.heap.size := Nat.lt_of_lt_of_le (by simp; omega) g1'.size)
                | (at_builtin; refine append_oneL (f := Value.int .i64) rfl _ _ 41 rfl Try.underlying41 hj hj0 hj1 hj2 rfl (fun _ => rfl) (pre := keys) (v := vk) c.key rfl rfl (by simp) K1.2.2.1 (by simp; omega) (by omega) (by omega) ?_
                   intro g2 q2 u2w O2 g2' l2
                   have K2 := K1.keys O2 g2' l2
                   have S2 := Bx.grow (j := 1) (u := .slice (some ⟨g2, 0, none⟩) (keys.length + 1) q2) K1.2.2.1 S1 (by simp; omega) g2'
                   have C2c := card_grow (S := w5.heap.size) (j := 1) (u := .slice (some ⟨g2, 0, none⟩) (keys.length + 1) q2) C1c K1.2.2.1 (by decide) g2' hcbS
                   have bb2 := box_grown K1.1 g2' (row_ne K1.2.2.1)
                   have bc2 := box_grown C1c g2' (own_ne_box K1.2.2.1 C1c (by decide))
                   have ya2 := box_cell bb2 (j := 0) rfl
                   have yb2 := box_cell bb2 (j := 1) rfl
                   have yc2 := box_cell bb2 (j := 2) rfl
                   have fa2 := bfro bb2 1
                   have za2 := box_cell bc2 (j := 1) rfl
                   have zb2 := box_cell bc2 (j := 2) rfl
                   have hz2 : w5.heap.size < u2w.heap.size := Nat.lt_of_lt_of_le (by simp; omega) g2'.size)
                | (at_builtin; refine append_oneL (f := Value.int .i64) rfl _ _ 41 rfl Try.underlying41 hj hj0 hj1 hj2 rfl (fun _ => rfl) (pre := lens) (v := vl) (c.w.length : Int) rfl rfl (by simp) K2.2.2.2.1 (by simp; omega) (by omega) (by omega) ?_
                   intro g3 q3 u3w O3 g3' l3
                   have K3 := K2.lens O3 g3' l3
                   have S3 := Bx.grow (j := 2) (u := .slice (some ⟨g3, 0, none⟩) (lens.length + 1) q3) K2.2.2.2.1 S2 (by simp; omega) g3'
                   have C3c := card_grow (S := w5.heap.size) (j := 2) (u := .slice (some ⟨g3, 0, none⟩) (lens.length + 1) q3) C2c K2.2.2.2.1 (by decide) g3' hcbS
                   have bb3 := box_grown K2.1 g3' (row_ne K2.2.2.2.1)
                   have bc3 := box_grown C2c g3' (own_ne_box K2.2.2.2.1 C2c (by decide))
                   have ya3 := box_cell bb3 (j := 0) rfl
                   have yb3 := box_cell bb3 (j := 1) rfl
                   have yc3 := box_cell bb3 (j := 2) rfl
                   have fa3 := bfro bb3 2
                   have za3 := box_cell bc3 (j := 1) rfl
                   have zb3 := box_cell bc3 (j := 2) rfl
                   have hz3 : w5.heap.size < u3w.heap.size := Nat.lt_of_lt_of_le (by simp; omega) g3'.size))
              have HK3 := hide K3
              have HS3 := hide S3
              clear K3 S3 C3c bb3 bc3 ya3 yb3 yc3 fa3 za3 zb3 K2 S2 C2c bb2 bc2 ya2 yb2 yc2 fa2 za2 zb2 K1 S1 C1c bb1 bc1 ya1 yb1 yc1 fa1 za1 zb1 P0 CB0 bel0
              go_roundw
              case rel =>
                refine ⟨k + 1, _, _, _, ids ++ [c.id], keys ++ [c.key], lens ++ [(c.w.length : Int)], by omega, by go_num, ?_, ?_, ?_, by simp; omega, by simp; omega, by simp; omega, unhide HK3, unhide HS3, by simp; omega⟩
                · show _ = _
                  rw [unhide HTS, List.map_append, ← unhide HI]; rfl
                · show _ = _
                  rw [unhide HTS, List.map_append, ← unhide HK]; rfl
                · show _ = _
                  rw [unhide HTS, List.map_append, ← unhide HLN]; rfl
              case measure => simp [intOf]; omega
            · have hkl : k = n := by omega
              have X9 := (hbel.block _ hZ5).trans (unhide HX5)
              have T9 := (unhide HT5).below hbel
              have s0 := box_cell hbx.1 (j := 0) rfl
              have s1 := box_cell hbx.1 (j := 1) rfl
              have s2 := box_cell hbx.1 (j := 2) rfl
              have s3 := box_cell hbx.1 (j := 3) rfl
              have s4 := box_cell hbx.1 (j := 4) rfl
              obtain ⟨ia, ic, hvi, -⟩ := id (Gl.owned hbx.2.1)
              obtain ⟨ka, kc, hvk, -⟩ := id (Sl.owned hbx.2.2.1)
              obtain ⟨lna, lnc, hvl, -⟩ := id (Sl.owned hbx.2.2.2.1)
              subst hvi hvk hvl
              have x0 := box_cell X9 (j := 0) rfl
              have x1 := box_cell X9 (j := 1) rfl
              have x2 := box_cell X9 (j := 2) rfl
              have x3 := box_cell X9 (j := 3) rfl
              have x4 := box_cell X9 (j := 4) rfl
              have f0 := bfro X9 0
              have f1 := bfro X9 1
              have f2 := bfro X9 2
              have f3 := bfro X9 3
              have f4 := bfro X9 4
              have HE := hide (build_end hbx T9 hB5 hbel BB5 hZ5 (by rw [unhide HI, List.take_of_length_le (by omega)]) (by rw [unhide HK, List.take_of_length_le (by omega)]) (by rw [unhide HLN, List.take_of_length_le (by omega)]) ⟨by first | rfl | exact (unhide HNI).1, (unhide HNI).2⟩)
              clear X9 T9 hbx hbel
              go_wp2
              exact bodyPost_ret (v := .tuple #[.agg #[.slice ia ids.length ic, .slice ka keys.length kc, .slice lna lens.length lnc, .slice ta tn tc, .bool true], .int .i64 0]) (by simp [results, Try.results27, go_sem, x0, x1, x2, x3, x4]) rfl (unhide HE)
end Go.Proofs.Ytefnkbgkcjhkoaa

/-
  The contracts of May and Find of a shelf.
-/
namespace Go.Proofs.Ytefnkbgkcjhkoaa
set_option maxRecDepth 100000
open Go.RowKit

theorem H.may_long {L : List Cd} (h : 1100 < L.length) : H.may L = false := by
  rw [H.may, decide_eq_false (by omega)]
  rfl
theorem H.may_fall {L : List Cd} (h : H.rise L = false) : H.may L = false := by
  rw [H.may, h]
  simp
theorem H.may_all {L : List Cd} (hl : ¬ 1100 < L.length) (h : H.rise L = true) : H.may L = S.mayAll L := by
  rw [H.may, h, S.mayAll, decide_eq_true (by omega), decide_eq_true ((H.rise_up.1 h).nodup)]
  simp
theorem build_arg {L : List Cd} {so : Bool} : (S.build L so).2.2 = 1 ↔ S.mayAll L = false := by
  unfold S.build
  split
  · rename_i h; simp [h]
  · rename_i h
    split
    · simp [h]
    · split <;> simp [h]

set_option maxRecDepth 100000 in
set_option maxHeartbeats 4000000 in
theorem may13_any (v : Value) (L : List Cd) (w : World) (h : Cs w v L) :
    Calls Try.prog 11 #[v] w fun e w' => e = .returned (.bool (H.may L)) ∧ Below w.heap.size w w' := by
  have H0 := h
  have CR := rising_any v L w h
  obtain ⟨a, cap, rfl, h1, h2, hna, -⟩ := h.open
  obtain ⟨r, hr⟩ : ∃ r, H.may L = r := ⟨_, rfl⟩
  rw [hr]
  have HR := hide hr
  clear h hr
  by_cases hlen : 1100 < L.length
  · have HF : Hid (r = false) := by show _ = _; rw [← unhide HR]; exact H.may_long hlen
    have q1 : decide ((1100 : Int) < (L.length : Int)) = true := decide_eq_true (by omega)
    clear CR
    go_enter Try.func11, Try.ntmps11
    go_wp2
    go_ret
    exact ⟨by rw [unhide HF]; rfl, Below.refl _ _⟩
  have q1 : decide ((1100 : Int) < (L.length : Int)) = false := decide_eq_false (by omega)
  obtain ⟨s, hs⟩ : ∃ s, H.rise L = s := ⟨_, rfl⟩
  rw [hs] at CR
  have HS := hide hs
  clear hs
  cases s with
  | false =>
    have HF : Hid (r = false) := by show _ = _; rw [← unhide HR]; exact H.may_fall (unhide HS)
    go_enter Try.func11, Try.ntmps11
    go_wp2_with fail
    refine CR.mono ?_
    rintro e w1 ⟨rfl, B1⟩
    clear CR
    go_wp2
    go_ret
    exact ⟨by rw [unhide HF]; rfl, B1⟩
  | true =>
    have HF : Hid (r = S.mayAll L) := by show _ = _; rw [← unhide HR]; exact H.may_all hlen (unhide HS)
    go_enter Try.func11, Try.ntmps11
    go_wp2_with fail
    refine CR.mono ?_
    rintro e w1 ⟨rfl, B1⟩
    have CB := build_any _ L false w1 (H0.below B1) (by omega) _ rfl
    clear CR
    go_wp2_with fail
    refine CB.mono ?_
    rintro e w2 ⟨iv, kv, lv, tv, rfl, S2, B2⟩
    have BB := below_trans' B1 B2
    obtain ⟨n, hn⟩ : ∃ n, (S.build L false).2.2 = n := ⟨_, rfl⟩
    have hb := build_arg (L := L) (so := false)
    rw [hn] at hb ⊢
    have HB : Hid ((n != 1) = r) := by
      show _ = _
      rw [unhide HF]
      cases hm : S.mayAll L with
      | false => rw [hb.2 hm]; rfl
      | true =>
        rw [bne_iff_ne]
        intro e
        rw [hb.1 e] at hm
        cases hm
    obtain ⟨ia, ic, rfl, -⟩ := id S2.1
    obtain ⟨ka, kc, rfl, -⟩ := id S2.2.1
    obtain ⟨la, lc, rfl, -⟩ := id S2.2.2.1
    obtain ⟨ta, tn, tc, rfl⟩ : ∃ ta tn tc, tv = .slice ta tn tc := by
      obtain ⟨ps, ⟨ta, tc, h, _⟩, _⟩ := S2.2.2.2
      exact ⟨_, _, _, h⟩
    clear CB S2 B1 B2 hn hb
    go_wp2
    go_ret
    exact ⟨by rw [← unhide HB]; rfl, below_all BB _⟩

theorem find13_any (v : Value) (L : List Cd) (id : ByteArray) (w : World) (h : Cs w v L) :
    Calls Try.prog 13 #[v, .string id] w fun e w' => e = .returned (.int .i64 (H.find L id)) ∧ Below w.heap.size w w' := by
  have H0 := h
  have CM := may13_any v L w h
  obtain ⟨a, cap, rfl, h1, h2, hna, -⟩ := h.open
  obtain ⟨m, hm⟩ : ∃ m, H.may L = m := ⟨_, rfl⟩
  obtain ⟨r, hr⟩ : ∃ r, H.find L id = r := ⟨_, rfl⟩
  rw [hm] at CM
  rw [hr]
  have HR := hide hr
  have HM := hide hm
  clear h hr hm
  go_enter Try.func13, Try.ntmps13
  go_wp2_with fail
  refine CM.mono ?_
  rintro e w1 ⟨rfl, B1⟩
  clear CM
  cases m with
  | false =>
    have HN : Hid (r = -1) := by show _ = _; rw [← unhide HR]; exact H.find_neg (by rw [H.delB, unhide HM]; rfl)
    go_wp2
    go_ret
    exact ⟨by rw [unhide HN]; rfl, B1⟩
  | true =>
    have CS := stand_any _ L id w1 (H0.below B1) (by have := (H.may_iff.1 (unhide HM)).1; omega) (H.may_up (unhide HM))
    obtain ⟨s, hs⟩ : ∃ s, H.has L id = s := ⟨_, rfl⟩
    obtain ⟨k, hk⟩ : ∃ k, (H.low L id).length = k := ⟨_, rfl⟩
    rw [hs, hk] at CS
    have HS := hide hs
    have HK := hide hk
    clear hs hk
    go_wp2_with fail
    refine CS.mono ?_
    rintro e w2 ⟨rfl, B2⟩
    have BB := below_trans' B1 B2
    clear CS
    cases s with
    | false =>
      have HN : Hid (r = -1) := by show _ = _; rw [← unhide HR]; exact H.find_neg (by rw [H.delB, unhide HM, unhide HS]; rfl)
      go_wp2
      go_ret
      exact ⟨by rw [unhide HN]; rfl, BB⟩
    | true =>
      have HN : Hid (r = (k : Int)) := by show _ = _; rw [← unhide HR, H.find_pos (by rw [H.delB, unhide HM, unhide HS]; rfl), unhide HK]
      go_wp2
      go_ret
      exact ⟨by rw [unhide HN]; rfl, BB⟩
end Go.Proofs.Ytefnkbgkcjhkoaa
