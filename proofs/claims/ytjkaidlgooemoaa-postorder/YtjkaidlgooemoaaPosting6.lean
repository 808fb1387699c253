/-
  The contract of posting: the next posting of a block.
-/
import Derived.Test.YtjkaidlgooemoaaPiece6
namespace Go.Proofs.Ytjkaidlgooemoaa
open Go.RowKit

/-- What the next posting is, by what is read: its step, its places, where it ends. -/
def Q.post1 (q : List Int) (p : Nat) : Option (Int × List Int × Nat) :=
  match V.getH 5 (q.drop p) with
  | none => none
  | some (s, k) =>
    match V.readP q (p + k) with
    | none => none
    | some (xs, p') => some (s, xs, p')

/-- What posting answers, and leaves. -/
def PosEnd (g : Nat) (v : Value) (m : Int) (w : World) (r : Option (Int × List Int × Nat)) (e : Ending) (w' : World) : Prop :=
  match r with
  | some (s, xs, p') => ∃ v', e = .returned (.tuple #[.agg #[.int .i64 (m + (s + 1)), v'], .bool true]) ∧ w'.heap[g]? = some (.cells #[v, .int .i64 (p' : Int), .int .i64 (m + (s + 1))] 79 (0, 0)) ∧ Pa w.heap.size w' v' xs ∧ w.grownBy w' (some g)
  | none => e = .returned (.tuple #[.agg #[.int .i64 0, .slice none 0 0], .bool false]) ∧ w.grownBy w' (some g)

theorem grown_two {w w1 : World} {g : Nat} (hg : w.grownBy w1 (some g)) (u1 u2 : Value) : w.grownBy ((w1.setCell ⟨w.heap.size, 0, none⟩ u1).setCell ⟨w.heap.size, 1, none⟩ u2) (some g) := by
  have b1 : Below w.heap.size w1 ((w1.setCell ⟨w.heap.size, 0, none⟩ u1).setCell ⟨w.heap.size, 1, none⟩ u2) := ((Below.refl w.heap.size w1).setCell (p := ⟨w.heap.size, 0, none⟩) (Nat.le_refl w.heap.size) _).setCell (p := ⟨w.heap.size, 1, none⟩) (Nat.le_refl w.heap.size) _
  exact ⟨b1.os.trans hg.os, b1.tape.trans hg.tape, b1.output.trans hg.output, Nat.le_trans hg.size b1.size, fun k hk hk2 => (b1.block k hk).trans (hg.block k hk hk2)⟩

set_option maxHeartbeats 2000000 in
theorem posting_any (g : Nat) (v : Value) (q : List Int) (p : Nat) (m : Int) (w : World) (hb : w.heap[g]? = some (.cells #[v, .int .i64 (p : Int), .int .i64 m] 79 (0, 0)))
    (hs : Sl .u8 w v q) (hbt : V.Byt q) (hp : p ≤ q.length) (hm : -1 ≤ m ∧ m ≤ 1000000000000000) (hvg : ∀ a n c, v = .slice (some a) n c → 0 < n → a.block ≠ g) :
    Calls Try.prog 67 #[.pointer (some ⟨g, 0, none⟩)] w fun e w' => PosEnd g v m w (Q.post1 q p) e w' := by
  have hgw := (Array.getElem?_eq_some_iff.1 hb).1
  obtain ⟨W0, hW0⟩ : ∃ W0, W0 = w.alloc (.cells #[.int .i64 0, .slice none 0 0] 39) := ⟨_, rfl⟩
  have b0 : Below w.heap.size w W0 := by rw [hW0]; exact below_alloc _ _
  have hb0 := box_below hb b0
  have hr0 : W0.heap[w.heap.size]? = some (.cells #[.int .i64 0, .slice none 0 0] 39 (0, 0)) := by rw [hW0]; exact heap_alloc_new w _
  have hs0 := hs.below b0
  have hne : some w.heap.size ≠ some g := by simp; omega
  have HW0 := hide hW0
  clear hW0
  cases h1 : V.getH 5 (q.drop p) with
  | none =>
    have hp1 : Q.post1 q p = none := by rw [Q.post1, h1]
    rw [hp1]
    have HN := hide (number_any g _ _ v q p W0 hb0 rfl rfl hs0 hbt hp none h1)
    clear h1 hp1
    go_enter Try.func67, Try.ntmps67
    go_wp2_with fail
    rw [← unhide HW0]
    refine (unhide HN).mono ?_
    rintro e w1 ⟨rfl, hb1, G1⟩
    have br := box_grown hr0 G1 hne
    have y0 : w1.cell? ⟨w.heap.size, 0, none⟩ = some (.int .i64 0) := box_cell br rfl
    have y1 : w1.cell? ⟨w.heap.size, 1, none⟩ = some (.slice none 0 0) := box_cell br rfl
    have z0 := box_frozen br 0
    have z1 := box_frozen br 1
    have GG := (grown_below b0 (some g)).trans G1
    clear hb0 hr0 br hb1
    go_wp2
    exact bodyPost_ret (v := .tuple #[.agg #[.int .i64 0, .slice none 0 0], .bool false]) (by simp [results, Try.results67, go_sem, y0, y1]) rfl ⟨rfl, grown_two GG _ _⟩
  | some sk =>
    obtain ⟨s, k⟩ := sk
    obtain ⟨a1, a2, a3, a4, a5⟩ := V.put_getH (hbt.drop p) h1
    unfold V.Top at a3
    simp only [List.length_drop] at a5
    have HN := hide (number_any g _ _ v q p W0 hb0 rfl rfl hs0 hbt hp (some (s, k)) h1)
    cases h2 : V.readP q (p + k) with
    | none =>
      have hp1 : Q.post1 q p = none := by rw [Q.post1, h1]; simp only []; rw [h2]
      rw [hp1]
      have HR := hide h2
      clear h1 h2 hp1 a1 a4
      go_enter Try.func67, Try.ntmps67
      go_wp2_with fail
      rw [← unhide HW0]
      refine (unhide HN).mono ?_
      rintro e w1 ⟨rfl, hb1, G1⟩
      have br := box_grown hr0 G1 hne
      have hs1 := hs0.grown G1 hvg
      have HRR := hide (rising_src g _ _ v q (p + k) w1 hb1 rfl rfl hs1 hbt (by omega) none (unhide HR))
      clear hb0 hr0 hb1
      go_wp2_with fail
      refine (unhide HRR).mono ?_
      rintro e w2 ⟨rfl, hb2, G2⟩
      have br2 := box_grown br G2 hne
      have y0 : w2.cell? ⟨w.heap.size, 0, none⟩ = some (.int .i64 0) := box_cell br2 rfl
      have y1 : w2.cell? ⟨w.heap.size, 1, none⟩ = some (.slice none 0 0) := box_cell br2 rfl
      have z0 := box_frozen br2 0
      have z1 := box_frozen br2 1
      have GG := ((grown_below b0 (some g)).trans G1).trans G2
      clear br br2 hb2
      go_wp2
      exact bodyPost_ret (v := .tuple #[.agg #[.int .i64 0, .slice none 0 0], .bool false]) (by simp [results, Try.results67, go_sem, y0, y1]) rfl ⟨rfl, grown_two GG _ _⟩
    | some xq =>
      obtain ⟨xs, p'⟩ := xq
      have hp1 : Q.post1 q p = some (s, xs, p') := by rw [Q.post1, h1]; simp only []; rw [h2]
      rw [hp1]
      have HR := hide h2
      clear h1 h2 hp1 a1 a4
      go_enter Try.func67, Try.ntmps67
      go_wp2_with fail
      rw [← unhide HW0]
      refine (unhide HN).mono ?_
      rintro e w1 ⟨rfl, hb1, G1⟩
      have br := box_grown hr0 G1 hne
      have hs1 := hs0.grown G1 hvg
      have HRR := hide (rising_src g _ _ v q (p + k) w1 hb1 rfl rfl hs1 hbt (by omega) (some (xs, p')) (unhide HR))
      clear hb0 hr0 hb1
      go_wp2_with fail
      refine (unhide HRR).mono ?_
      rintro e w2 ⟨v2, rfl, hb2, P2, G2⟩
      have br2 := box_grown br G2 hne
      have hb2' : w2.heap[g]? = some (.cells #[v, .int .i64 (p' : Int), .int .i64 m] 79 (0, 0)) := by simpa using hb2
      have x2 : w2.cell? ⟨g, 2, none⟩ = some (.int .i64 m) := box_cell hb2' rfl
      have xf := box_frozen hb2' 2
      have y0 : w2.cell? ⟨w.heap.size, 0, none⟩ = some (.int .i64 0) := box_cell br2 rfl
      have y1 : w2.cell? ⟨w.heap.size, 1, none⟩ = some (.slice none 0 0) := box_cell br2 rfl
      have z0 := box_frozen br2 0
      have z1 := box_frozen br2 1
      have GG := ((grown_below b0 (some g)).trans G1).trans G2
      obtain ⟨xa, xc, hx, -⟩ := id (Pa.sl P2)
      subst hx
      have HP2 := hide P2
      have HB2 := hide hb2'
      have hng : ¬ (g = w.heap.size) := by omega
      have hng2 : ¬ (w.heap.size = g) := by omega
      have hz1 : w.heap.size < w1.heap.size := by
        have h1 := G1.size
        rw [unhide HW0] at h1
        simp at h1
        omega
      have HZ1 := hide hz1
      clear br br2 hb2 hb2' P2 hz1
      go_wp2
      refine bodyPost_ret (v := .tuple #[.agg #[.int .i64 (m + (s + 1)), .slice xa xs.length xc], .bool true]) (by simp [results, Try.results67, go_sem, y0, y1]) rfl ⟨_, rfl, ?_, ?_, grown_two (GG.trans (grown_set _ ⟨g, 2, none⟩ _)) _ _⟩
      · rw [Below.heap_setCell _ _ _ _ (by exact hng), Below.heap_setCell _ _ _ _ (by exact hng)]
        exact box_set (unhide HB2) 2 _
      · have P3 : Pa w.heap.size w2 (.slice xa xs.length xc) xs := own_mono (unhide HP2) (Nat.le_of_lt (unhide HZ1))
        have kb : ∀ k, (Value.slice xa xs.length xc).ownBlock = some k → w.heap.size < k := fun k hk => Nat.lt_of_lt_of_le (unhide HZ1) (World.ownsRow.lt (unhide HP2) k hk).1
        exact own_set (own_set (own_set P3 (p := ⟨g, 2, none⟩) (fun k hk => by have := kb k hk; show k ≠ g; omega) _) (p := ⟨w.heap.size, 0, none⟩) (fun k hk => by have := kb k hk; show k ≠ w.heap.size; omega) _) (p := ⟨w.heap.size, 1, none⟩) (fun k hk => by have := kb k hk; show k ≠ w.heap.size; omega) _
end Go.Proofs.Ytjkaidlgooemoaa
