/-
  The chapter's examples hold: the contract of the statements' own 'awake' (remap), out of Order's contract.
-/
import Derived.Test.YtggojmnalmjapaaFew10
import Derived.Test.YtggojmnalmjapaaThen10
import Derived.Test.YtggojmnalmjapaaTurn10
import Derived.Test.YtggojmnalmjapaaCarry10
import Derived.Deep.RegionHeld3
namespace Go.Proofs.Ytggojmnalmjapaa
set_option maxRecDepth 100000
open Go.RowKit Go.Deep

/-- Order's contract. -/
def OrderC : Prop := ∀ (kv iv : Value) (keys : List Int) (ids : List ByteArray) (w : World), Il w kv keys → Gl .string w iv ids → Calls Try.prog 17 #[kv, iv] w (MadeN w (R.order keys ids))

theorem Gl.lit10 {α : Type} {f : α → Value} {e : TypeId} {w : World} {cs : Array Value} (zs : List α) {n g : Nat} (hn : zs.length = n) (h : cs.toList = zs.map f) (hl : n ≤ 4294967296) (hg : g = w.heap.size) :
    Gl f (w.alloc (.cells cs e)) (.slice (some ⟨g, 0, none⟩) n n) zs := by
  subst hn hg
  refine ⟨_, _, rfl, Nat.le_refl _, by unfold maxLen; omega, (fun h => by cases h), fun x hx i y hi => ?_⟩
  obtain rfl := Option.some.inj hx
  rw [Addr.add_lit, Nat.zero_add]
  have e1 : (w.alloc (.cells cs e)).cell? ⟨w.heap.size, i, none⟩ = cs[i]? := by simp [go_sem]
  rw [e1, ← Array.getElem?_toList, h, List.getElem?_map, hi]
  rfl

theorem R.ex4 : R.turn [1, 2, 0] = [2, 0, 1] := by kernel_rfl

/-- A list of lists whose one list lies as s. -/
theorem Lg.lit1 {α : Type} {f : α → Value} {e : TypeId} {w : World} {s : Option Addr × Nat × Nat} {l : List α} {g : Nat} (h : Gl f w (sv s) l) (hg : g = w.heap.size) : Lg f (w.alloc (.cells #[sv s] e)) (.slice (some ⟨g, 0, none⟩) 1 1) [l] := by
  refine ⟨[s], Gl.lit10 [s] rfl rfl (by decide) hg, rfl, fun i s' l' hs hl => ?_⟩
  cases i with
  | zero => simp at hs hl; subst hs hl; exact h.below (below_alloc _ _)
  | succ i => simp at hs

set_option maxHeartbeats 4000000 in
theorem awake10_of (CO : OrderC) (w : World) : Calls Try.prog 10 #[] w fun e w' => e = .returned (.bool true) ∧ Below w.heap.size w w' := by
  go_enter Try.func10, Try.ntmps10
  go_wp2_with fail
  have k1 : Il ((w.alloc (.cells #[.int .i64 7, .int .i64 3, .int .i64 7] 3)).alloc (.cells #[.string ⟨#[98]⟩, .string ⟨#[97]⟩, .string ⟨#[97]⟩] 9)) (.slice (some ⟨w.heap.size, 0, none⟩) 3 3) [7, 3, 7] := (Gl.lit10 [7, 3, 7] rfl rfl (by decide) rfl).below (below_alloc _ _)
  have k2 : Gl .string ((w.alloc (.cells #[.int .i64 7, .int .i64 3, .int .i64 7] 3)).alloc (.cells #[.string ⟨#[98]⟩, .string ⟨#[97]⟩, .string ⟨#[97]⟩] 9)) (.slice (some ⟨w.heap.size + 1, 0, none⟩) 3 3) [⟨#[98]⟩, ⟨#[97]⟩, ⟨#[97]⟩] := Gl.lit10 (f := Value.string) ([⟨#[98]⟩, ⟨#[97]⟩, ⟨#[97]⟩] : List ByteArray) rfl rfl (by decide) (by simp)
  refine (CO _ _ _ _ _ k1 k2).mono ?_
  rintro e w1 ⟨v1, rfl, O1, B1⟩
  rw [R.ex1] at O1
  have I1 : Il w1 v1 [1, 2, 0] := Gl.owned O1
  have BB1 := below_trans' (below_all (below_alloc w (.cells #[.int .i64 7, .int .i64 3, .int .i64 7] 3)) (.cells #[.string ⟨#[98]⟩, .string ⟨#[97]⟩, .string ⟨#[97]⟩] 9)) B1
  obtain ⟨a1, c1, rfl, -⟩ := I1.open
  clear O1 B1 k1 k2
  go_wp2_with fail
  have k3 : Gl .bool (w1.alloc (.cells #[.bool true, .bool false, .bool true] 4)) (.slice (some ⟨w1.heap.size, 0, none⟩) 3 3) [true, false, true] := Gl.lit10 [true, false, true] rfl rfl (by decide) rfl
  refine (table_any _ _ 5 _ k3).mono ?_
  rintro e w2 ⟨v2, rfl, O2, B2⟩
  rw [R.ex2] at O2
  have I2 : Il w2 v2 [5, -1, 6] := Gl.owned O2
  have BB2 := below_trans' (below_all BB1 _) B2
  have I12 := (I1.below (below_alloc _ _)).below B2
  obtain ⟨a2, c2, rfl, -⟩ := I2.open
  clear O2 B2 k3 I1 BB1
  go_wp2_with fail
  obtain ⟨W3, hW3⟩ : ∃ W3, W3 = (((((w2.alloc (.cells #[.int .i64 0, .int .i64 1] 3)).alloc (.cells #[.slice (some ⟨w2.heap.size, 0, none⟩) 2 2] 23)).alloc (.cells #[.bool true, .bool true] 4)).alloc (.cells #[.slice (some ⟨w2.heap.size + 1 + 1, 0, none⟩) 2 2] 22)).alloc (.cells #[.bool true, .bool false] 4)).alloc (.cells #[.slice (some ⟨w2.heap.size + 1 + 1 + 1 + 1, 0, none⟩) 2 2] 22) := ⟨_, rfl⟩
  have k4 : Tl W3 (.slice (some ⟨w2.heap.size + 1, 0, none⟩) 1 1) [[0, 1]] := by
    rw [hW3]
    exact (Lg.lit1 (s := (some ⟨w2.heap.size, 0, none⟩, 2, 2)) (Gl.lit10 (n := 2) [0, 1] rfl rfl (by decide) rfl) (by simp)).below (below_all (below_all (below_all (below_alloc _ _) _) _) _)
  have k5 : Bl W3 (.slice (some ⟨w2.heap.size + 1 + 1 + 1, 0, none⟩) 1 1) [[true, true]] := by
    rw [hW3]
    exact (Lg.lit1 (s := (some ⟨w2.heap.size + 1 + 1, 0, none⟩, 2, 2)) (Gl.lit10 (n := 2) [true, true] rfl rfl (by decide) (by simp)) (by simp)).below (below_all (below_alloc _ _) _)
  have k6 : Bl W3 (.slice (some ⟨w2.heap.size + 1 + 1 + 1 + 1 + 1, 0, none⟩) 1 1) [[true, false]] := by
    rw [hW3]
    exact Lg.lit1 (s := (some ⟨w2.heap.size + 1 + 1 + 1 + 1, 0, none⟩, 2, 2)) (Gl.lit10 (n := 2) [true, false] rfl rfl (by decide) (by simp)) (by simp)
  have b3 : Below w2.heap.size w2 W3 := by
    rw [hW3]
    exact below_all (below_all (below_all (below_all (below_all (below_alloc _ _) _) _) _) _) _
  have CC := carry_any 2 _ _ _ [[0, 1]] [[true, true]] [[true, false]] W3 k4 k5 k6
  rw [R.ex3] at CC
  have HW := hide hW3
  have BB3 := below_trans' BB2 b3
  have I13 := I12.below b3
  have I23 := I2.below b3
  clear hW3 k4 k5 k6 b3 I12 I2 BB2
  rw [← unhide HW]
  refine CC.mono ?_
  rintro e w3 ⟨v3, rfl, O3, B3⟩
  have I3 : Gl .bool w3 v3 [true, false] := Gl.owned O3
  have BB4 := below_trans' BB3 B3
  have J1 := I13.below B3
  have J2 := I23.below B3
  obtain ⟨a3, c3, rfl, -⟩ := I3.open
  clear O3 B3 CC I13 I23 BB3 HW
  go_wp2_with fail
  refine (ints10_b _ _ [5, -1, 6] [5, -1, 6] _ (J2.below (below_alloc _ _)) (Gl.lit10 (n := 3) [5, -1, 6] rfl rfl (by decide) rfl) true (by decide)).mono ?_
  rintro e w4 ⟨rfl, B4⟩
  have BB5 := below_trans' (below_all BB4 _) B4
  have L1 := (J1.below (below_alloc _ _)).below B4
  have L3 := (I3.below (below_alloc _ _)).below B4
  clear J2 J1 I3 B4 BB4
  go_wp2_with fail
  refine (ints10_b _ _ [1, 2, 0] [1, 2, 0] _ (L1.below (below_alloc _ _)) (Gl.lit10 (n := 3) [1, 2, 0] rfl rfl (by decide) rfl) true (by decide)).mono ?_
  rintro e w5 ⟨rfl, B5⟩
  have BB6 := below_trans' (below_all BB5 _) B5
  have M1 := (L1.below (below_alloc _ _)).below B5
  have M3 := (L3.below (below_alloc _ _)).below B5
  clear L1 L3 B5 BB5
  go_wp2_with fail
  refine (turn_any _ [1, 2, 0] _ M1).mono ?_
  rintro e w6 ⟨v6, rfl, O6, B6⟩
  rw [R.ex4] at O6
  have I6 : Il w6 v6 [2, 0, 1] := Gl.owned O6
  have BB7 := below_trans' BB6 B6
  have N1 := M1.below B6
  have N3 := M3.below B6
  obtain ⟨a6, c6, rfl, -⟩ := I6.open
  clear M1 M3 B6 BB6 O6
  go_wp2_with fail
  refine (ints10_b _ _ [2, 0, 1] [2, 0, 1] _ (I6.below (below_alloc _ _)) (Gl.lit10 (n := 3) [2, 0, 1] rfl rfl (by decide) rfl) true (by decide)).mono ?_
  rintro e w7 ⟨rfl, B7⟩
  have BB8 := below_trans' (below_all BB7 _) B7
  have P1 := (N1.below (below_alloc _ _)).below B7
  have P3 := (N3.below (below_alloc _ _)).below B7
  clear N1 N3 B7 BB7 I6
  go_wp2_with fail
  refine (then_any _ _ [2, -1, 9] [1, 2, 0] _ (Gl.lit10 (n := 3) [2, -1, 9] rfl rfl (by decide) rfl) (P1.below (below_alloc _ _)) (by decide)).mono ?_
  rintro e w8 ⟨v8, rfl, O8, B8⟩
  rw [R.ex5] at O8
  have I8 : Il w8 v8 [0, -1, -1] := Gl.owned O8
  have BB9 := below_trans' (below_all BB8 _) B8
  have Q3 := (P3.below (below_alloc _ _)).below B8
  obtain ⟨a8, c8, rfl, -⟩ := I8.open
  clear P1 P3 B8 BB8 O8
  go_wp2_with fail
  refine (ints10_b _ _ [0, -1, -1] [0, -1, -1] _ (I8.below (below_alloc _ _)) (Gl.lit10 (n := 3) [0, -1, -1] rfl rfl (by decide) rfl) true (by decide)).mono ?_
  rintro e w9 ⟨rfl, B9⟩
  have BB10 := below_trans' (below_all BB9 _) B9
  have R3 := (Q3.below (below_alloc _ _)).below B9
  clear Q3 B9 BB9 I8
  go_wp2_with fail
  refine (bools10_b _ _ [true, false] [true, false] _ (R3.below (below_alloc _ _)) (Gl.lit10 (n := 2) [true, false] rfl rfl (by decide) rfl) true (by decide)).mono ?_
  rintro e w10 ⟨rfl, B10⟩
  have BB11 := below_trans' (below_all BB10 _) B10
  clear R3 B10 BB10
  go_wp2
  go_ret
  exact ⟨rfl, BB11⟩
end Go.Proofs.Ytggojmnalmjapaa
