/-
  RemapTells', RemapCarries' and RemapOrders' walks.
-/
import Derived.Test.YtggojmnalmjapaaAwake10
import Derived.Test.YtggojmnalmjapaaRTab10
import Derived.Test.YtggojmnalmjapaaRCarry10
namespace Go.Proofs.Ytggojmnalmjapaa
set_option maxRecDepth 100000
open Go.RowKit Go.Deep

set_option maxHeartbeats 4000000 in
theorem remapTells_walk (CO : OrderC) (v0 v2 v3 : Value) (l : List Bool) (n : Int) (t p : List Int) (w : World) (h0 : Gl .bool w v0 l) (h2 : Il w v2 t) (h3 : Il w v3 p) :
    Calls Try.prog 3 #[v0, .int .i64 n, v2, v3] w fun e w' => e = .returned (.bool true) ∧ Below w.heap.size w w' := by
  obtain ⟨a0, c0, rfl, -, m0, -⟩ := h0.open
  obtain ⟨a2, c2, rfl, -, m2, -⟩ := h2.open
  obtain ⟨a3, c3, rfl, -, m3, -⟩ := h3.open
  go_enter Try.func3, Try.ntmps3
  go_wp2_with fail
  refine (awake10_of CO _).mono ?_
  rintro e w1 ⟨rfl, B1⟩
  have G0 := h0.below B1
  have G2 := h2.below B1
  have G3 := h3.below B1
  clear h0 h2 h3
  by_cases l0 : (100 : Int) < (l.length : Int)
  · go_wp2
    go_ret
    exact ⟨rfl, B1⟩
  by_cases l2 : (1200 : Int) < (t.length : Int)
  · go_wp2
    go_ret
    exact ⟨rfl, B1⟩
  by_cases l3 : (1200 : Int) < (p.length : Int)
  · go_wp2
    go_ret
    exact ⟨rfl, B1⟩
  obtain ⟨X, hX⟩ : ∃ X, R.table l n = X := ⟨_, rfl⟩
  obtain ⟨Y, hY⟩ : ∃ Y, R.thn t p = Y := ⟨_, rfl⟩
  have C1 := hide (fun w' (G : Gl .bool w' (.slice a0 l.length c0) l) => by have := table_any _ l n w' G; rwa [hX] at this)
  have C2 := hide (fun w' (G : Gl .bool w' (.slice a0 l.length c0) l) => by have := rtable_any _ l n w' G; rwa [hX] at this)
  have C3 := hide (fun w' (G : Il w' (.slice a2 t.length c2) t) (H : Il w' (.slice a3 p.length c3) p) => by have := then_any _ _ t p w' G H (by omega); rwa [hY] at this)
  have C4 := hide (fun w' (G : Il w' (.slice a2 t.length c2) t) (H : Il w' (.slice a3 p.length c3) p) => by have := rthen_any _ _ t p w' G H (by omega); rwa [hY] at this)
  clear hX hY
  go_wp2_with fail
  refine (unhide C1 _ G0).mono ?_
  rintro e w2 ⟨u2, rfl, O2, B2⟩
  have I2 : Il w2 u2 X := Gl.owned O2
  have BB2 := below_trans' B1 B2
  have G0 := G0.below B2
  have G2 := G2.below B2
  have G3 := G3.below B2
  clear O2 B2 B1 C1
  go_wp2_with fail
  refine (unhide C2 _ G0).mono ?_
  rintro e w3 ⟨u3, rfl, O3, B3⟩
  have I3 : Il w3 u3 X := Gl.owned O3
  have I2 := I2.below B3
  have BB3 := below_trans' BB2 B3
  have G2 := G2.below B3
  have G3 := G3.below B3
  clear O3 B3 BB2 C2 G0
  go_wp2_with fail
  refine (ints10_b _ _ X X _ I2 I3 true (by simp)).mono ?_
  rintro e w4 ⟨rfl, B4⟩
  have BB4 := below_trans' BB3 B4
  have G2 := G2.below B4
  have G3 := G3.below B4
  clear B4 BB3 I2 I3
  go_wp2_with fail
  refine (unhide C3 _ G2 G3).mono ?_
  rintro e w5 ⟨u5, rfl, O5, B5⟩
  have I5 : Il w5 u5 Y := Gl.owned O5
  have BB5 := below_trans' BB4 B5
  have G2 := G2.below B5
  have G3 := G3.below B5
  clear O5 B5 BB4 C3
  go_wp2_with fail
  refine (unhide C4 _ G2 G3).mono ?_
  rintro e w6 ⟨u6, rfl, O6, B6⟩
  have I6 : Il w6 u6 Y := Gl.owned O6
  have I5 := I5.below B6
  have BB6 := below_trans' BB5 B6
  clear O6 B6 BB5 C4 G2 G3
  go_wp2_with fail
  refine (ints10_b _ _ Y Y _ I5 I6 true (by simp)).mono ?_
  rintro e w7 ⟨rfl, B7⟩
  have BB7 := below_trans' BB6 B7
  clear B7 BB6 I5 I6
  go_wp2
  go_ret
  exact ⟨rfl, BB7⟩

set_option maxHeartbeats 4000000 in
theorem remapCarries_walk (CO : OrderC) (n : Int) (v1 v2 v3 : Value) (ts : List (List Int)) (was now : List (List Bool)) (w : World) (h1 : Tl w v1 ts) (h2 : Bl w v2 was) (h3 : Bl w v3 now) :
    Calls Try.prog 5 #[.int .i64 n, v1, v2, v3] w fun e w' => e = .returned (.bool true) ∧ Below w.heap.size w w' := by
  obtain ⟨X, hX⟩ : ∃ X, R.carry n ts was now = X := ⟨_, rfl⟩
  have C1 := hide (fun w' (G : Tl w' v1 ts) (H : Bl w' v2 was) (K : Bl w' v3 now) => by have := carry_any n _ _ _ ts was now w' G H K; rwa [hX] at this)
  have C2 := hide (fun w' (G : Tl w' v1 ts) (H : Bl w' v2 was) (K : Bl w' v3 now) => by have := rcarry_any n _ _ _ ts was now w' G H K; rwa [hX] at this)
  clear hX
  go_enter Try.func5, Try.ntmps5
  go_wp2_with fail
  refine (awake10_of CO _).mono ?_
  rintro e w1 ⟨rfl, B1⟩
  have G1 := h1.below B1
  have G2 := h2.below B1
  have G3 := h3.below B1
  clear h1 h2 h3
  go_wp2_with fail
  refine (few10_any _ _ _ ts was now _ G1 G2 G3).mono ?_
  rintro e w2 ⟨⟨f, rfl⟩, rfl⟩
  cases f with
  | false =>
    go_wp2
    go_ret
    exact ⟨rfl, B1⟩
  | true =>
  go_wp2_with fail
  refine (unhide C1 _ G1 G2 G3).mono ?_
  rintro e w3 ⟨u3, rfl, O3, B3⟩
  have I3 : Gl .bool w3 u3 X := Gl.owned O3
  have BB3 := below_trans' B1 B3
  have G1 := G1.below B3
  have G2 := G2.below B3
  have G3 := G3.below B3
  clear O3 B3 B1 C1
  go_wp2_with fail
  refine (unhide C2 _ G1 G2 G3).mono ?_
  rintro e w4 ⟨u4, rfl, O4, B4⟩
  have I4 : Gl .bool w4 u4 X := Gl.owned O4
  have I3 := I3.below B4
  have BB4 := below_trans' BB3 B4
  clear O4 B4 BB3 C2 G1 G2 G3
  go_wp2_with fail
  refine (bools10_b _ _ X X _ I3 I4 true (by simp)).mono ?_
  rintro e w5 ⟨rfl, B5⟩
  have BB5 := below_trans' BB4 B5
  clear B5 BB4 I3 I4
  go_wp2
  go_ret
  exact ⟨rfl, BB5⟩

/-- The contract of the document's Order. -/
def ROrderC : Prop := ∀ (kv iv : Value) (keys : List Int) (ids : List ByteArray) (w : World), Il w kv keys → Gl .string w iv ids → (∀ s ∈ ids, s.size ≤ maxLen) → Calls Try.prog 18 #[kv, iv] w (MadeN w (R.order keys ids))

set_option maxHeartbeats 4000000 in
theorem remapOrders_walk (CO : OrderC) (RO : ROrderC) (v0 v1 v2 : Value) (keys : List Int) (ids : List ByteArray) (p : List Int) (w : World) (h0 : Il w v0 keys) (h1 : Gl .string w v1 ids) (h2 : Il w v2 p) :
    Calls Try.prog 4 #[v0, v1, v2] w fun e w' => e = .returned (.bool true) ∧ Below w.heap.size w w' := by
  obtain ⟨a0, c0, rfl, -, m0, -⟩ := h0.open
  obtain ⟨a1, c1, rfl, -, m1, -⟩ := h1.open
  obtain ⟨a2, c2, rfl, -, m2, -⟩ := h2.open
  obtain ⟨X, hX⟩ : ∃ X, R.order keys ids = X := ⟨_, rfl⟩
  obtain ⟨Y, hY⟩ : ∃ Y, R.turn p = Y := ⟨_, rfl⟩
  have C1 := hide (fun w' (G : Il w' (.slice a0 keys.length c0) keys) (H : Gl .string w' (.slice a1 ids.length c1) ids) => by have := CO _ _ keys ids w' G H; rwa [hX] at this)
  have C2 := hide (fun w' (G : Il w' (.slice a0 keys.length c0) keys) (H : Gl .string w' (.slice a1 ids.length c1) ids) hz => by have := RO _ _ keys ids w' G H hz; rwa [hX] at this)
  have C3 := hide (fun w' (G : Il w' (.slice a2 p.length c2) p) => by have := turn_any _ p w' G; rwa [hY] at this)
  have C4 := hide (fun w' (G : Il w' (.slice a2 p.length c2) p) => by have := rturn_any _ p w' G; rwa [hY] at this)
  clear hX hY
  go_enter Try.func4, Try.ntmps4
  go_wp2_with fail
  refine (awake10_of CO _).mono ?_
  rintro e w1 ⟨rfl, B1⟩
  have G0 := h0.below B1
  have G1 := h1.below B1
  have G2 := h2.below B1
  clear h0 h1 h2
  go_wp2_with fail
  refine (names10_any _ ids _ G1).mono ?_
  rintro e w2 ⟨⟨f, rfl, HZ⟩, rfl⟩
  have HZ := hide HZ
  cases f with
  | false =>
    go_wp2
    go_ret
    exact ⟨rfl, B1⟩
  | true =>
  by_cases l0 : (1200 : Int) < (keys.length : Int)
  · go_wp2
    go_ret
    exact ⟨rfl, B1⟩
  by_cases l2 : (1200 : Int) < (p.length : Int)
  · go_wp2
    go_ret
    exact ⟨rfl, B1⟩
  go_wp2_with fail
  refine (unhide C1 _ G0 G1).mono ?_
  rintro e w3 ⟨u3, rfl, O3, B3⟩
  have I3 : Il w3 u3 X := Gl.owned O3
  have BB3 := below_trans' B1 B3
  have G0 := G0.below B3
  have G1 := G1.below B3
  have G2 := G2.below B3
  clear O3 B3 B1 C1
  go_wp2_with fail
  refine (unhide C2 _ G0 G1 (unhide HZ (by first | rfl | trivial))).mono ?_
  rintro e w4 ⟨u4, rfl, O4, B4⟩
  have I4 : Il w4 u4 X := Gl.owned O4
  have I3 := I3.below B4
  have BB4 := below_trans' BB3 B4
  have G2 := G2.below B4
  clear O4 B4 BB3 C2 G0 G1 HZ
  go_wp2_with fail
  refine (ints10_b _ _ X X _ I3 I4 true (by simp)).mono ?_
  rintro e w5 ⟨rfl, B5⟩
  have BB5 := below_trans' BB4 B5
  have G2 := G2.below B5
  clear B5 BB4 I3 I4
  go_wp2_with fail
  refine (unhide C3 _ G2).mono ?_
  rintro e w6 ⟨u6, rfl, O6, B6⟩
  have I6 : Il w6 u6 Y := Gl.owned O6
  have BB6 := below_trans' BB5 B6
  have G2 := G2.below B6
  clear O6 B6 BB5 C3
  go_wp2_with fail
  refine (unhide C4 _ G2).mono ?_
  rintro e w7 ⟨u7, rfl, O7, B7⟩
  have I7 : Il w7 u7 Y := Gl.owned O7
  have I6 := I6.below B7
  have BB7 := below_trans' BB6 B7
  clear O7 B7 BB6 C4 G2
  go_wp2_with fail
  refine (ints10_b _ _ Y Y _ I6 I7 true (by simp)).mono ?_
  rintro e w8 ⟨rfl, B8⟩
  have BB8 := below_trans' BB7 B8
  clear B8 BB7 I6 I7
  go_wp2
  go_ret
  exact ⟨rfl, BB8⟩
end Go.Proofs.Ytggojmnalmjapaa
