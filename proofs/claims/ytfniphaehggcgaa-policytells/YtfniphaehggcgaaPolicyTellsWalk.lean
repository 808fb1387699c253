/-
  PolicyTells: each policy proposes, and forcing does, what the document says.
-/
import Derived.Test.YtfniphaehggcgaaPolicyTellsRForce12
import Derived.Test.YtfniphaehggcgaaPolicyTellsRLogs12
namespace Go.Proofs.Ytfniphaehggcgaa
set_option maxRecDepth 100000
open Go.RowKit Go.Deep

set_option maxRecDepth 100000 in
set_option maxHeartbeats 8000000 in
theorem policyTells_walk (v : Value) (L : List Sz) (per most n : Int) (w : World) (h : Zl w v L) (hn9 : n ≤ 9223372036854775807) :
    Calls Try.prog 3 #[v, .agg #[.int .i64 per, .int .i64 most], .int .i64 n] w fun e w' => e = .returned (.bool true) ∧ Below w.heap.size w w' := by
  obtain ⟨r, hr⟩ : ∃ r : Bool, r = true ↔ Z.Ready L := by
    by_cases hf : Z.Ready L
    · exact ⟨true, fun _ => hf, fun _ => rfl⟩
    · exact ⟨false, (fun h => by cases h), fun h => absurd h hf⟩
  obtain ⟨mb, hm⟩ : ∃ r : Bool, r = true ↔ Z.Pol per most := by
    by_cases hf : Z.Pol per most
    · exact ⟨true, fun _ => hf, fun _ => rfl⟩
    · exact ⟨false, (fun h => by cases h), fun h => absurd h hf⟩
  obtain ⟨nb, hnb⟩ : ∃ r : Bool, r = true ↔ 1 ≤ n := ⟨decide (1 ≤ n), by simp⟩
  have CT := fun w1 (hb : Below w.heap.size w w1) => tiered_any v L per most w1 (h.below hb) r mb hr hm
  have CT2 := fun w1 (hb : Below w.heap.size w w1) => rtiered_any v L per most w1 (h.below hb) r mb hr hm
  have CLo := fun w1 (hb : Below w.heap.size w w1) => logs_any v L per most w1 (h.below hb) r mb hr hm
  have CLo2 := fun w1 (hb : Below w.heap.size w w1) => rlogs_any v L per most w1 (h.below hb) r mb hr hm
  have CF := fun w1 (hb : Below w.heap.size w w1) => force_any v L n w1 (h.below hb) hn9 r nb hr hnb
  have CF2 := fun w1 (hb : Below w.heap.size w w1) => rforce_any v L n w1 (h.below hb) hn9 r nb hr hnb
  have CM := fun w1 (hb : Below w.heap.size w w1) => zmay_any v L w1 (h.below hb) r hr
  have CM2 := fun w1 (hb : Below w.heap.size w w1) => rmay_any v L w1 (h.below hb) r hr
  obtain ⟨P1, hP1⟩ : ∃ P, (if (r && mb) = true then Z.prop true L (Z.tierG per.toNat most L) else []) = P := ⟨_, rfl⟩
  obtain ⟨P2, hP2⟩ : ∃ P, (if (r && mb) = true then Z.prop true L (Z.runs per.toNat most L) else []) = P := ⟨_, rfl⟩
  obtain ⟨P3, hP3⟩ : ∃ P, (if (r && nb) = true then Z.prop false L (Z.forceG n L) else []) = P := ⟨_, rfl⟩
  rw [hP1] at CT CT2
  rw [hP2] at CLo CLo2
  rw [hP3] at CF CF2
  have CTab := fun (u1 u2 : Value) (P : List (List Int)) (w1 : World) (h1 : Tl w1 u1 P) (h2 : Tl w1 u2 P) => ztables_any u1 u2 P w1 h1 h2
  have hll9 : L.length ≤ 9223372036854775807 := by
    obtain ⟨a, cap, -, h1, h2, -⟩ := h.open
    omega
  obtain ⟨a, cap, rfl, -⟩ := h.open
  obtain ⟨W, hW⟩ : ∃ W, W = w.alloc (.cells #[.int .i64 per, .int .i64 most] 24) := ⟨_, rfl⟩
  have BW : Below w.heap.size w W := by rw [hW]; exact below_alloc _ _
  have b0 : W.cell? ⟨w.heap.size, 0, none⟩ = some (.int .i64 per) := by rw [hW]; exact box_cell (heap_alloc_new w _) rfl
  have b1 : W.cell? ⟨w.heap.size, 1, none⟩ = some (.int .i64 most) := by rw [hW]; exact box_cell (heap_alloc_new w _) rfl
  have HW := hide hW
  clear hr h hW hm hnb hP1 hP2 hP3
  go_enter Try.func3, Try.ntmps3
  go_wp2_with fail
  rw [← unhide HW]
  refine (awake12_any _).mono ?_
  rintro e w1 ⟨rfl, B1⟩
  have b0 := cell_keep b0 B1
  have b1 := cell_keep b1 B1
  have BB1 := below_trans' BW B1
  clear B1 BW
  by_cases h30 : 30 < L.length
  · have h30' : decide ((30 : Int) < (L.length : Int)) = true := by simp; omega
    clear CT CLo CF CTab CT2 CLo2 CF2 CM CM2
    go_wp2
    go_ret
    exact ⟨rfl, BB1⟩
  have h30' : decide ((30 : Int) < (L.length : Int)) = false := by simp; omega
  go_upto_region 4 with fail
  go_region_held3 (fun w' => w'.cell? ⟨w.heap.size, 0, none⟩ = some (.int .i64 per) ∧ w'.cell? ⟨w.heap.size, 1, none⟩ = some (.int .i64 most) ∧ Below w.heap.size w w')
    (first
      | with_reducible assumption
      | (go_split_ands; exact ⟨b0, b1, BB1.drew⟩)
      | (go_split_ands; exact ⟨cell_keep (by assumption) B4, cell_keep (by assumption) B4, below_trans' (by assumption) B4⟩)
      | (go_split_ands; exact ⟨cell_keep (by assumption) B3, cell_keep (by assumption) B3, below_trans' (by assumption) B3⟩)
      | (go_split_ands; exact ⟨cell_keep (by assumption) B2, cell_keep (by assumption) B2, below_trans' (by assumption) B2⟩))
    (first
      | (go_at_call 11; go_split_ands; refine (CT _ (by assumption)).mono ?_; rintro e w2 ⟨v2, rfl, T2, B2⟩; obtain ⟨a2, c2, rfl, -⟩ := T2.at)
      | (go_at_call 12; go_split_ands; refine (CT2 _ (by assumption)).mono ?_; rintro e w3 ⟨v3, rfl, T3, B3⟩; obtain ⟨a3, c3, rfl, -⟩ := T3.at)
      | (go_at_call 10; go_split_ands; refine (CTab _ _ P1 _ (T2.below B3) T3).mono ?_; rintro e w4 ⟨rfl, B4⟩))
  have q0 : w4.cell? ⟨w.heap.size, 0, none⟩ = some (.int .i64 per) := cell_keep (by assumption : w3.cell? ⟨w.heap.size, 0, none⟩ = some (.int .i64 per)) B4
  have q1 : w4.cell? ⟨w.heap.size, 1, none⟩ = some (.int .i64 most) := cell_keep (by assumption : w3.cell? ⟨w.heap.size, 1, none⟩ = some (.int .i64 most)) B4
  have BB4 : Below w.heap.size w w4 := below_trans' (by assumption : Below w.heap.size w w3) B4
  clear CT CT2 T2 T3 B2 B3 B4
  go_upto_region 5 with fail
  go_region_held3 (fun w' => w'.cell? ⟨w.heap.size, 0, none⟩ = some (.int .i64 per) ∧ w'.cell? ⟨w.heap.size, 1, none⟩ = some (.int .i64 most) ∧ Below w.heap.size w w')
    (first
      | with_reducible assumption
      | (go_split_ands; exact ⟨q0, q1, BB4.drew⟩)
      | (go_split_ands; exact ⟨cell_keep (by assumption) B7, cell_keep (by assumption) B7, below_trans' (by assumption) B7⟩)
      | (go_split_ands; exact ⟨cell_keep (by assumption) B6, cell_keep (by assumption) B6, below_trans' (by assumption) B6⟩)
      | (go_split_ands; exact ⟨cell_keep (by assumption) B5, cell_keep (by assumption) B5, below_trans' (by assumption) B5⟩))
    (first
      | (go_at_call 13; go_split_ands; refine (CLo _ (by assumption)).mono ?_; rintro e w5 ⟨v5, rfl, T5, B5⟩; obtain ⟨a5, c5, rfl, -⟩ := T5.at)
      | (go_at_call 14; go_split_ands; refine (CLo2 _ (by assumption)).mono ?_; rintro e w6 ⟨v6, rfl, T6, B6⟩; obtain ⟨a6, c6, rfl, -⟩ := T6.at)
      | (go_at_call 10; go_split_ands; refine (CTab _ _ P2 _ (T5.below B6) T6).mono ?_; rintro e w7 ⟨rfl, B7⟩))
  have BB7 : Below w.heap.size w w7 := below_trans' (by assumption : Below w.heap.size w w6) B7
  clear CLo CLo2 T5 T6 B5 B6 B7
  go_wp2_with fail
  refine (CF _ BB7).mono ?_
  rintro e w8 ⟨v8, rfl, T8, B8⟩
  have BB8 := below_trans' BB7 B8
  obtain ⟨a8, c8, rfl, -⟩ := T8.at
  have HT8 := hide T8
  clear CF B8 T8
  go_wp2_with fail
  refine (CF2 _ BB8).mono ?_
  rintro e w9 ⟨v9, rfl, T9, B9⟩
  have BB9 := below_trans' BB8 B9
  have CT9 := CTab _ _ P3 w9 ((unhide HT8).below B9) T9
  obtain ⟨a9, c9, rfl, -⟩ := T9.at
  clear CF2 B9 T9 CTab
  go_wp2_with fail
  refine CT9.mono ?_
  rintro e w10 ⟨rfl, B10⟩
  have BB10 := below_trans' BB9 B10
  clear CT9 B10
  go_wp2_with fail
  refine (CM _ BB10).mono ?_
  rintro e w11 ⟨rfl, B11⟩
  have BB11 := below_trans' BB10 B11
  clear CM B11
  go_wp2_with fail
  refine (CM2 _ BB11).mono ?_
  rintro e w12 ⟨rfl, B12⟩
  have BB12 := below_trans' BB11 B12
  have hrr : (r == r) = true := by cases r <;> rfl
  clear CM2 B12
  go_wp2
  go_ret
  exact ⟨rfl, BB12⟩
end Go.Proofs.Ytfniphaehggcgaa
