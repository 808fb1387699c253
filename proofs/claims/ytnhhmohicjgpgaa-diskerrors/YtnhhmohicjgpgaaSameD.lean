/-
  The contracts of Same, by EqualFunc, sameFile and bytes.Equal, and of the document's own Same.
-/
import Derived.Test.YtnhhmohicjgpgaaReadD
import Derived.Test.YtnhhmohicjgpgaaSame
import Derived.Lib.Bytes
import Derived.Laws.BytesArg
namespace Go.Proofs.Ytnhhmohicjgpgaa
open Go.RowKit

theorem Sl.conv {w : World} {v : Value} {zs : List Int} (h : Sl .u8 w v zs) : (convert 27 9 v).run Try.prog w = .ok (.string (strOfNums zs)) w := by
  obtain ⟨a, cap, rfl, hl, hm, hn, hc⟩ := h
  cases a with
  | none =>
    have h0 := hn rfl
    have hz : zs = [] := List.eq_nil_of_length_eq_zero (by omega)
    subst hz
    exact run_convert_bytes_nil w _ 5 Try.underlying27 Try.underlying5 _ _ _ Try.underlying9
  | some x =>
    have hl : (loadCells x zs.length).run Try.prog w = .ok (zs.map (Value.int .u8)).toArray w := by
      have := run_loadCells_list (P := Try.prog) w x (zs.map (Value.int .u8)) (fun j v hj => by
        have hjl : j < zs.length := by
          rcases Nat.lt_or_ge j zs.length with h | h
          · exact h
          · simp [List.getElem?_eq_none (show (zs.map (Value.int .u8)).length ≤ j by simpa using h)] at hj
        rw [hc x rfl j hjl]
        simp [List.getElem?_eq_getElem hjl] at hj
        subst hj
        simp [List.getD, List.getElem?_eq_getElem hjl])
      simpa using this
    rw [run_convert_bytes_string w _ _ 5 _ _ cap Try.underlying27 Try.underlying5 Try.underlying9, run_bytesToString w _ _ cap zs hl, foldl_push_bytes]
    simp [strOfNums, ByteArray.empty, ByteArray.emptyWithCapacity]
    rfl

/-- All its numbers are bytes. -/
def Bys (L : List Pf) : Prop := ∀ f ∈ L, ∀ c ∈ f.da, 0 ≤ c ∧ c ≤ 255

theorem strOfNums_inj : ∀ {xs ys : List Int}, (∀ c ∈ xs, 0 ≤ c ∧ c ≤ 255) → (∀ c ∈ ys, 0 ≤ c ∧ c ≤ 255) → (strOfNums xs).toList = (strOfNums ys).toList → xs = ys
  | [], [], _, _, _ => rfl
  | [], _ :: _, _, _, h => by rw [Lib.strOfNums_toList, Lib.strOfNums_toList] at h; simp [Lib.bytesOf] at h
  | _ :: _, [], _, _, h => by rw [Lib.strOfNums_toList, Lib.strOfNums_toList] at h; simp [Lib.bytesOf] at h
  | x :: xs, y :: ys, hx, hy, h => by
    rw [Lib.strOfNums_toList, Lib.strOfNums_toList] at h
    simp only [Lib.bytesOf, List.map_cons, List.cons.injEq] at h
    have h1 := hx x (List.mem_cons_self ..)
    have h2 := hy y (List.mem_cons_self ..)
    have e : x = y := by
      have h3 := congrArg UInt8.toNat h.1
      have e1 : x.toNat % 2 ^ 8 = x.toNat := Nat.mod_eq_of_lt (by omega)
      have e2 : y.toNat % 2 ^ 8 = y.toNat := Nat.mod_eq_of_lt (by omega)
      simp only [UInt8.toNat_ofNat', e1, e2] at h3
      omega
    subst e
    rw [strOfNums_inj (fun c hc => hx c (List.mem_cons_of_mem _ hc)) (fun c hc => hy c (List.mem_cons_of_mem _ hc)) (by rw [Lib.strOfNums_toList, Lib.strOfNums_toList]; exact h.2)]

set_option maxHeartbeats 1000000 in
theorem equal_any (va vb : Value) (xs ys : List Int) (w : World) (ha : Sl .u8 w va xs) (hb : Sl .u8 w vb ys) (bx : ∀ c ∈ xs, 0 ≤ c ∧ c ≤ 255) (bY : ∀ c ∈ ys, 0 ≤ c ∧ c ≤ 255) :
    Calls Try.prog 45 #[va, vb] w fun e w' => e = .returned (.bool (decide (xs = ys))) ∧ w' = w := by
  have h1 := ha.conv
  have h2 := hb.conv
  have HE : Hid (((strOfNums xs).toList == (strOfNums ys).toList) = decide (xs = ys)) := by
    show _ = _
    rw [Bool.eq_iff_iff]
    simp only [beq_iff_eq, decide_eq_true_eq]
    exact ⟨strOfNums_inj bx bY, fun h => by rw [h]⟩
  clear ha hb bx bY
  go_enter Try.func45, Try.ntmps45
  go_wp2
  go_ret
  exact ⟨ret_bool (unhide HE), rfl⟩

set_option maxHeartbeats 1000000 in
theorem sameFile_any (d1 d2 : Value) (f g : Pf) (w : World) (h1 : Sl .u8 w d1 f.da) (h2 : Sl .u8 w d2 g.da) (b1 : ∀ c ∈ f.da, 0 ≤ c ∧ c ≤ 255) (b2 : ∀ c ∈ g.da, 0 ≤ c ∧ c ≤ 255) :
    Calls Try.prog 37 #[.agg #[.string f.nm, d1, .bool f.su], .agg #[.string g.nm, d2, .bool g.su]] w fun e w' => e = .returned (.bool (Pf.eqb f g)) ∧ Below w.heap.size w w' := by
  have B0 : Below w.heap.size w ((w.alloc (.cells #[.string f.nm, d1, .bool f.su] 48)).alloc (.cells #[.string g.nm, d2, .bool g.su] 48)) := (below_alloc _ _).alloc (by simp) _
  have S1 := h1.below B0
  have S2 := h2.below B0
  have hd1 := h1
  have hd2 := h2
  obtain ⟨a1, c1, rfl, -⟩ := h1
  obtain ⟨a2, c2, rfl, -⟩ := h2
  clear hd1 hd2
  obtain ⟨n1, z1, s1⟩ := f
  obtain ⟨n2, z2, s2⟩ := g
  simp only at *
  have hq := @K.eq_to n1 n2
  by_cases hn : n1 = n2
  · have hq' : (n1.toList == n2.toList) = true := by rw [hq]; simpa using hn
    clear hq
    have HN := hide hn
    clear hn
    by_cases hs : s1 = s2
    · have hs' : (s1 == s2) = true := by simpa using hs
      have HS := hide hs
      clear hs
      go_enter Try.func37, Try.ntmps37
      go_wp2_with fail
      refine (equal_any _ _ _ _ _ S1 S2 b1 b2).mono ?_
      rintro e w1 ⟨rfl, rfl⟩
      go_wp2
      go_ret
      exact ⟨ret_bool (by simp [Pf.eqb, unhide HN, unhide HS]), B0⟩
    · have hs' : (s1 == s2) = false := by simpa using hs
      have HS := hide hs
      clear hs
      go_enter Try.func37, Try.ntmps37
      go_wp2
      go_ret
      exact ⟨ret_bool (by simp [Pf.eqb, unhide HS]), B0⟩
  · have hq' : (n1.toList == n2.toList) = false := by rw [hq]; simpa using hn
    clear hq
    have HN := hide hn
    clear hn
    go_enter Try.func37, Try.ntmps37
    go_wp2
    go_ret
    exact ⟨ret_bool (by simp [Pf.eqb, unhide HN]), B0⟩

theorem take_snoc_f (l : List Pf) (k : Nat) (f : Pf) (h : l[k]? = some f) : l.take (k + 1) = l.take k ++ [f] := by
  obtain ⟨hk, rfl⟩ := List.getElem?_eq_some_iff.1 h
  rw [List.take_succ_eq_append_getElem hk]
theorem files_step {L M : List Pf} {k : Nat} {f g : Pf} (hf : L[k]? = some f) (hg : M[k]? = some g) (h : L.take k = M.take k) (e : f = g) : L.take (k + 1) = M.take (k + 1) := by
  rw [take_snoc_f L k f hf, take_snoc_f M k g hg, h, e]
theorem files_end {L M : List Pf} {k : Nat} (hl : L.length = M.length) (hk : ¬ k < L.length) (h : L.take k = M.take k) : Pf.eqs L M = true := by
  rw [List.take_of_length_le (by omega), List.take_of_length_le (by omega)] at h
  exact Pf.eqs_iff.2 h
theorem files_not {L M : List Pf} {k : Nat} {f g : Pf} (hf : L[k]? = some f) (hg : M[k]? = some g) (e : ¬ f = g) : Pf.eqs L M = false := by
  apply Pf.eqs_not
  rintro rfl
  rw [hf] at hg
  exact e (Option.some.inj hg)
theorem files_len {L M : List Pf} (h : ¬ L.length = M.length) : Pf.eqs L M = false := by
  apply Pf.eqs_not
  rintro rfl
  exact h rfl

theorem sameFile_b (d1 d2 : Value) (f g : Pf) (w : World) (h1 : Sl .u8 w d1 f.da) (h2 : Sl .u8 w d2 g.da) (b1 : ∀ c ∈ f.da, 0 ≤ c ∧ c ≤ 255) (b2 : ∀ c ∈ g.da, 0 ≤ c ∧ c ≤ 255) (r : Bool) (hr : Pf.eqb f g = r) :
    Calls Try.prog 37 #[.agg #[.string f.nm, d1, .bool f.su], .agg #[.string g.nm, d2, .bool g.su]] w fun e w' => e = .returned (.bool r) ∧ Below w.heap.size w w' := by
  rw [← hr]
  exact sameFile_any d1 d2 f g w h1 h2 b1 b2

set_option maxHeartbeats 1000000 in
theorem equalFunc_any (va vb : Value) (L M : List Pf) (w : World) (ha : Fl w va L) (hb : Fl w vb M) (ba : Bys L) (bb : Bys M) :
    Calls Try.prog 36 #[va, vb, .func (.func 37) #[] #[]] w fun e w' => e = .returned (.bool (Pf.eqs L M)) ∧ Below w.heap.size w w' := by
  obtain ⟨a, sc, rfl, hl, hm, hna, oa⟩ := ha.open
  obtain ⟨a2, sc2, rfl, hl2, hm2, hna2, ob⟩ := hb.open
  clear ha hb hna hna2
  by_cases hlen : L.length = M.length
  · have HL := hide hlen
    have h0 : ((L.length : Int) != (M.length : Int)) = false := by simp [hlen]
    clear hlen
    go_enter Try.func36, Try.ntmps36
    go_wp2
    go_loopw [17] (fun i wr => ∃ k : Nat, k ≤ L.length ∧ i = .int .i64 k ∧ L.take k = M.take k ∧ Below w.heap.size w wr) (fun i _ => L.length - (intOf i).toNat)
    case atStart => exact ⟨0, Nat.zero_le _, rfl, rfl, Below.refl _ _⟩
    case round =>
      obtain ⟨k, hk, rfl, ht, hbel⟩ := hrel
      have HT := hide ht
      clear ht
      by_cases hlt : k < L.length
      · have hltb : k < M.length := by have := unhide HL; omega
        obtain ⟨f, hf⟩ : ∃ f, L[k]? = some f := ⟨L[k], List.getElem?_eq_getElem hlt⟩
        obtain ⟨g, hg⟩ : ∃ g, M[k]? = some g := ⟨M[k], List.getElem?_eq_getElem hltb⟩
        obtain ⟨b1, o1, rfl, x1, k1⟩ := oa (by omega)
        obtain ⟨b2, o2, rfl, x2, k2⟩ := ob (by omega)
        obtain ⟨da, dc, c0, c1, c2, c3⟩ := k1 k f hf
        obtain ⟨ea, ec, e0, e1, e2, e3⟩ := k2 k g hg
        have d0 := (hbel.cell (p := ⟨b1, o1 + k * 3, none⟩) x1).trans c0
        have d1 := (hbel.cell (p := ⟨b1, o1 + k * 3 + 1, none⟩) x1).trans c1
        have d2 := (hbel.cell (p := ⟨b1, o1 + k * 3 + 2, none⟩) x1).trans c2
        have g0 := (hbel.cell (p := ⟨b2, o2 + k * 3, none⟩) x2).trans e0
        have g1 := (hbel.cell (p := ⟨b2, o2 + k * 3 + 1, none⟩) x2).trans e1
        have g2 := (hbel.cell (p := ⟨b2, o2 + k * 3 + 2, none⟩) x2).trans e2
        have hbs := hbel.size
        have y1 : b1 < wr.heap.size := by omega
        have y2 : b2 < wr.heap.size := by omega
        have B2 : Below wr.heap.size wr ((wr.alloc (.cells #[.string f.nm, .slice da f.da.length dc, .bool f.su] 48)).alloc (.cells #[.string g.nm, .slice ea g.da.length ec, .bool g.su] 48)) := (below_alloc _ _).alloc (by simp) _
        have S1 := (c3.below hbel).below B2
        have S2 := (e3.below hbel).below B2
        have bf := ba f (List.mem_of_getElem? hf)
        have bg := bb g (List.mem_of_getElem? hg)
        have HF := hide hf
        have HG := hide hg
        clear c0 c1 c2 c3 e0 e1 e2 e3 k1 k2 oa ob hf hg
        by_cases he : f = g
        · have hd : Pf.eqb f g = true := Pf.eqb_iff.2 he
          have HD := hide hd
          have HE := hide he
          clear hd he
          go_wp2_with fail
          refine (sameFile_b _ _ f g _ S1 S2 bf bg _ (unhide HD)).mono ?_
          rintro e w1 ⟨rfl, B1⟩
          go_wp2
          go_roundw
          case rel => exact ⟨k + 1, by omega, by go_num, files_step (unhide HF) (unhide HG) (unhide HT) (unhide HE), below_trans' hbel (below_trans' B2 B1)⟩
          case measure => simp [intOf]; omega
        · have hd : Pf.eqb f g = false := Pf.eqb_not he
          have HD := hide hd
          have HE := hide he
          clear hd he
          go_wp2_with fail
          refine (sameFile_b _ _ f g _ S1 S2 bf bg _ (unhide HD)).mono ?_
          rintro e w1 ⟨rfl, B1⟩
          go_wp2
          go_ret
          exact ⟨ret_bool (files_not (unhide HF) (unhide HG) (unhide HE)).symm, below_trans' hbel (below_trans' B2 B1)⟩
      · go_wp2
        go_ret
        exact ⟨ret_bool (files_end (unhide HL) hlt (unhide HT)).symm, hbel⟩
  · have h0 : ((L.length : Int) != (M.length : Int)) = true := by rw [bne_iff_ne]; omega
    go_enter Try.func36, Try.ntmps36
    go_wp2
    go_ret
    exact ⟨ret_bool (files_len hlen).symm, Below.refl _ _⟩

set_option maxHeartbeats 1000000 in
theorem same_any (c1 c2 : Int) (va vb : Value) (L M : List Pf) (w : World) (ha : Fl w va L) (hb : Fl w vb M) (ba : Bys L) (bb : Bys M) (r : Bool) (hr : (decide (c1 = c2) && Pf.eqs L M) = r) :
    Calls Try.prog 23 #[.agg #[.int .i64 c1, va], .agg #[.int .i64 c2, vb]] w fun e w' => e = .returned (.bool r) ∧ Below w.heap.size w w' := by
  have B2 : Below w.heap.size w ((w.alloc (.cells #[.int .i64 c1, va] 24)).alloc (.cells #[.int .i64 c2, vb] 24)) := (below_alloc _ _).alloc (by simp) _
  have A2 := ha.below B2
  have C2 := hb.below B2
  obtain ⟨a, sc, rfl, hl, hm, hna, -⟩ := ha.open
  obtain ⟨a2, sc2, rfl, hl2, hm2, hna2, -⟩ := hb.open
  clear ha hb
  by_cases hc : c1 = c2
  · have hc' : (c1 == c2) = true := by simpa using hc
    have HC := hide hc
    clear hc
    go_enter Try.func23, Try.ntmps23
    go_wp2_with fail
    refine (equalFunc_any _ _ _ _ _ A2 C2 ba bb).mono ?_
    rintro e w1 ⟨rfl, B1⟩
    go_wp2
    go_ret
    exact ⟨ret_bool (by rw [← hr]; simp [unhide HC]), below_trans' B2 B1⟩
  · have hc' : (c1 == c2) = false := by simpa using hc
    have HC := hide hc
    clear hc
    go_enter Try.func23, Try.ntmps23
    go_wp2
    go_ret
    exact ⟨ret_bool (by rw [← hr]; simp [unhide HC]), B2⟩
end Go.Proofs.Ytnhhmohicjgpgaa
