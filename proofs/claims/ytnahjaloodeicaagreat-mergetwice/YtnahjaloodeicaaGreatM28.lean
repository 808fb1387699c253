/-
  Texts put together: Rep11.
-/
import Derived.Test.YtnahjaloodeicaaGreatM26
import Derived.Test.YtnahjaloodeicaaGreatM03
import Derived.Shelf.Bits.Mul64
import Derived.Laws.CopyOwn
/-
  The contract of slices.Repeat at one number.
-/
namespace Go.Proofs.YtnahjaloodeicaaGreat
set_option maxRecDepth 100000
open Go.RowKit Go.Deep

theorem mul1_any (n : Nat) (hn : n ≤ 4294967295) (w : World) : Calls Tryz.prog 92 #[.int .u64 1, .int .u64 n] w fun e w' => e = .returned (.tuple #[.int .u64 0, .int .u64 n]) ∧ w' = w := by
  have h := Any.bits_Mul Tryz.lays212 1 n (by omega) (by omega) w
  refine Calls.mono h ?_
  rintro e w' ⟨rfl, rfl⟩
  refine ⟨?_, rfl⟩
  rw [Nat.one_mul, Nat.div_eq_of_lt (by omega), Nat.mod_eq_of_lt (by omega)]
  rfl

/-- A row of n numbers, the first j of which are x. -/
def rrow (x : Int) (n j : Nat) : List Value := List.replicate j (.int .i64 x) ++ List.replicate (n - j) (.int .i64 0)
theorem rrow_len {x : Int} {n j : Nat} (h : j ≤ n) : (rrow x n j).length = n := by simp [rrow]; omega
theorem rrow_splice {x : Int} {n j m : Nat} (h : j + m ≤ n) : splice (rrow x n j) j (List.replicate m (.int .i64 x)) = rrow x n (j + m) := by
  unfold splice rrow
  rw [List.take_append_of_le_length (by simp), List.take_of_length_le (by simp), List.length_replicate, List.drop_append]
  simp only [List.length_replicate, List.drop_replicate]
  rw [show j - (j + m) = 0 by omega, List.replicate_zero, List.nil_append, ← List.append_assoc, List.replicate_append_replicate, show n - j - (j + m - j) = n - (j + m) by omega]
theorem rrow_all {x : Int} {n : Nat} : rrow x n n = (List.replicate n x).map (Value.int .i64) := by simp [rrow]

theorem row_own {w : World} {B g n : Nat} {x : Int} (h : w.heap[g]? = some (.cells (rrow x n n).toArray 3 (0, 0))) (hB : B ≤ g) (hn : n ≤ maxLen) : w.ownsRow B 3 1 (.slice (some ⟨g, 0, none⟩) n n) n ((List.replicate n x).map (Value.int .i64)) := by
  refine ⟨by simp, .inr ⟨g, n, _, rfl, hB, h, Nat.le_refl _, hn, by simp [rrow_len], ?_⟩⟩
  rw [← rrow_all, Nat.mul_one]
  exact List.take_of_length_le (by simp [rrow_len])

theorem run_copy11 (w w0 : World) (B g off dLen dCap : Nat) (ad : Addr) (sLen sCap : Nat) (cur cs : List Value) (hg : w.heap[g]? = some (.cells cur.toArray 3 (0, 0))) (hn : cs.length = Nat.min sLen dLen)
    (hsrc : ∀ j u, cs[j]? = some u → w.cell? (ad.add j) = some u) (hfit : off + cs.length ≤ cur.length) (h1 : ∀ u ∈ cs, u.oneCell' = true) (hb : Below B w0 w) (hB : B ≤ g) :
    ∃ w', (Builtin.copy_ #[27, 27] 3 #[.slice (some ⟨g, off, none⟩) dLen dCap, .slice (some ad) sLen sCap]).run Tryz.prog w = .ok (.int .i64 (cs.length : Int)) w' ∧ w'.heap[g]? = some (.cells (splice cur off cs).toArray 3 (0, 0)) ∧ Below B w0 w' := by
  have hsz : (Tryz.prog.info? 3).map (·.size) = some 1 := by kernel_rfl
  by_cases h0 : cs.length = 0
  · obtain rfl : cs = [] := List.eq_nil_of_length_eq_zero h0
    refine ⟨w, run_copy_none (P := Tryz.prog) w 27 27 3 3 (some ⟨g, off, none⟩) (some ad) dLen dCap sLen sCap Tryz.underlying27 hsz (by simpa using hn.symm), by simpa [splice] using hg, hb⟩
  · exact ⟨_, run_copy_row (P := Tryz.prog) w 27 27 3 3 g off dLen dCap ad sLen sCap cur.toArray 3 cs Tryz.underlying27 hsz hg hn hsrc (by simpa using hfit) h1, by simpa [splice] using setRow_heap w g _ _ 3 _ hg, below_setRow hb hB _⟩

set_option maxRecDepth 100000 in
set_option maxHeartbeats 4000000 in
theorem repeat_any (v : Value) (x : Int) (n : Nat) (w : World) (h : Il w v [x]) (hn : n ≤ 1000000) :
    Calls Tryz.prog 72 #[v, .int .i64 (n : Int)] w fun e w' => e = .returned (.slice (some ⟨w.heap.size, 0, none⟩) n n) ∧ w'.ownsRow w.heap.size 3 1 (.slice (some ⟨w.heap.size, 0, none⟩) n n) n ((List.replicate n x).map (Value.int .i64)) ∧ Below w.heap.size w w' := by
  obtain ⟨a, cap, rfl, hl, hmx, hna, ho⟩ := h.open
  obtain ⟨b, off, rfl, hb, hc⟩ := ho (by simp)
  have c0 : w.cell? ⟨b, off, none⟩ = some (.int .i64 x) := hc 0 x rfl
  have hmk := run_make_row' (P := Tryz.prog) 27 3 (.int .i64 0) 8 Tryz.underlying27 Tryz.infoI10 rfl .i64 .i64 n (by omega) (by omega)
  have CM := mul1_any n (by omega) w
  obtain ⟨W, hW⟩ : ∃ W, W = w.alloc (.cells (madeCells #[.int .i64 0] n) 3) := ⟨_, rfl⟩
  have BW : Below w.heap.size w W := by rw [hW]; exact below_alloc _ _
  have XW : W.heap[w.heap.size]? = some (.cells (rrow x n 0).toArray 3 (0, 0)) := by
    have e : (madeCells #[Value.int .i64 0] n) = (rrow x n 0).toArray := by
      rw [← Array.toList_inj, toList_madeCells_one]
      simp [rrow]
    rw [hW, e]
    exact heap_alloc_new w _
  have d0 : W.cell? ⟨b, off, none⟩ = some (.int .i64 x) := cellK10 c0 BW
  have hsz : (Tryz.prog.info? 3).map (·.size) = some 1 := by kernel_rfl
  have HW := hide hW
  clear hW ho hc h c0
  obtain ⟨m, hm⟩ : ∃ m, Nat.min 1 n = m := ⟨_, rfl⟩
  have hmn : m ≤ n := by rw [← hm]; exact Nat.min_le_right _ _
  have hm1 : m ≤ 1 := by rw [← hm]; exact Nat.min_le_left _ _
  have hm0 : 0 < n → 0 < m := by intro h9; rw [← hm]; exact Nat.lt_min.2 ⟨by omega, h9⟩
  have HM := hide hm
  have HM0 := hide hm0
  clear hm hm0
  have hsrc : ∀ (j : Nat) (u : Value), (List.replicate m (Value.int .i64 x))[j]? = some u → W.cell? ((⟨b, off, none⟩ : Addr).add j) = some u := fun j u hj => by
    have hj0 : j = 0 := by have := (List.getElem?_eq_some_iff.1 hj).1; simp at this; omega
    subst hj0
    rw [List.getElem?_replicate] at hj
    split at hj
    · cases hj
      simpa [Addr.add] using d0
    · cases hj
  have hcn : (List.replicate m (Value.int .i64 x)).length = Nat.min 1 n := by rw [List.length_replicate]; exact (unhide HM).symm
  have hfit : 0 + (List.replicate m (Value.int .i64 x)).length ≤ (rrow x n 0).length := by rw [rrow_len (Nat.zero_le _)]; simp; omega
  have hone : ∀ u ∈ List.replicate m (Value.int .i64 x), u.oneCell' = true := fun u hu => by rw [List.eq_of_mem_replicate hu]; rfl
  obtain ⟨W2, hrun, X2, B2⟩ := run_copy11 W w w.heap.size w.heap.size 0 n n ⟨b, off, none⟩ 1 cap (rrow x n 0) (List.replicate m (.int .i64 x)) XW hcn hsrc hfit hone BW (Nat.le_refl _)
  rw [rrow_splice (by omega), Nat.zero_add] at X2
  rw [List.length_replicate, unhide HW] at hrun
  have HX := hide X2
  clear hsrc hcn hfit hone XW X2 d0 BW
  go_enter Tryz.func72, Tryz.ntmps72
  go_wp2_with fail
  refine CM.mono ?_
  rintro e w1 ⟨rfl, hw⟩
  obtain rfl : w = w1 := hw.symm
  clear CM
  go_wp2
  go_loopw [8] (fun iv wr => ∃ j : Nat, j ≤ n ∧ Hid (0 < n → 0 < j) ∧ iv = .int .i64 j ∧ Hid (wr.heap[w.heap.size]? = some (.cells (rrow x n j).toArray 3 (0, 0))) ∧ Below w.heap.size w wr) (fun iv _ => n - (intOf iv).toNat)
  case atStart => exact ⟨m, hmn, HM0, rfl, HX, B2⟩
  case round =>
    obtain ⟨j, hj, HJ, rfl, HR, hbel⟩ := hrel
    by_cases hlt : j < n
    · have hj0 : 0 < j := (unhide HJ) (by omega)
      obtain ⟨q, hq⟩ : ∃ q, Nat.min j (n - j) = q := ⟨_, rfl⟩
      have hq1 : q ≤ n - j := by rw [← hq]; exact Nat.min_le_right _ _
      have hq2 : 0 < q := by rw [← hq]; exact Nat.lt_min.2 ⟨hj0, by omega⟩
      have hq3 : q ≤ j := by rw [← hq]; exact Nat.min_le_left _ _
      have hsrc : ∀ (k : Nat) (u : Value), (List.replicate q (Value.int .i64 x))[k]? = some u → wr.drew.cell? ((⟨w.heap.size, 0, none⟩ : Addr).add k) = some u := fun k u hk => by
        have hk1 : k < q := by have := (List.getElem?_eq_some_iff.1 hk).1; simpa using this
        refine World.news_of_block (cs := (rrow x n j).toArray) (t := 3) (fr := (0, 0)) (unhide HR) k u ?_
        rw [List.getElem?_replicate, if_pos hk1] at hk
        simp only [rrow]
        rw [List.getElem?_append_left (by simp; omega), List.getElem?_replicate, if_pos (by omega)]
        exact hk
      have hcn : (List.replicate q (Value.int .i64 x)).length = Nat.min j (n - j) := by rw [List.length_replicate, hq]
      have hfit : j + (List.replicate q (Value.int .i64 x)).length ≤ (rrow x n j).length := by rw [rrow_len hj, List.length_replicate]; omega
      have hone : ∀ u ∈ List.replicate q (Value.int .i64 x), u.oneCell' = true := fun u hu => by rw [List.eq_of_mem_replicate hu]; rfl
      have q1 : (0 : Int) ≤ (j : Int) := by omega
      have q2 : (j : Int) ≤ (n : Int) := by omega
      have q4 : IntKind.i64.wrap ((j : Int) + (q : Int)) = (j : Int) + (q : Int) := by rw [IntKind.wrap_i64]; omega
      obtain ⟨W4, hrun4, X4, B4⟩ := run_copy11 wr.drew w w.heap.size w.heap.size j (n - j) (n - j) ⟨w.heap.size, 0, none⟩ j n (rrow x n j) (List.replicate q (.int .i64 x)) (unhide HR) hcn hsrc hfit hone hbel.drew (Nat.le_refl _)
      rw [rrow_splice (by omega)] at X4
      rw [List.length_replicate] at hrun4
      have X5 := hide X4
      clear hsrc hcn hfit hone hq X4
      go_wp2
      go_region_held3 (fun w' => True)
        (trivial)
        (fail)
      all_goals
        go_wp2
        go_roundw
        case rel => exact ⟨j + q, by omega, hide (fun _ => by omega), by go_num, X5, B4⟩
        case measure => simp [intOf]; omega
    · have hjn : j = n := by omega
      subst hjn
      have O := row_own (unhide HR) (Nat.le_refl _) (by unfold maxLen; omega)
      have HO := hide O
      clear O HR
      go_wp2
      go_ret
      exact ⟨rfl, unhide HO, hbel⟩
end Go.Proofs.YtnahjaloodeicaaGreat
