/-
  The contracts of Table and Then.
-/
import Derived.Test.YtggojmnalmjapaaTable10
namespace Go.Proofs.Ytggojmnalmjapaa
set_option maxRecDepth 100000
open Go.RowKit Go.Deep

theorem R.tab_range (l : List Bool) (n : Int) : (List.range l.length).map (fun i => if l.getD i false = true then n + (R.cnt (l.take i) : Int) else -1) = R.tab n l := by
  apply List.ext_getElem?
  intro i
  by_cases h : i < l.length
  · have hx := List.getElem?_eq_getElem h
    rw [R.tab_at hx n]
    simp [h]
  · rw [List.getElem?_eq_none (by simp; omega), List.getElem?_eq_none (by rw [R.tab_len]; omega)]
theorem R.thn_range (t p : List Int) : (List.range t.length).map (fun i => R.thn1 p (t.getD i 0)) = R.thn t p := by
  apply List.ext_getElem?
  intro i
  by_cases h : i < t.length
  · simp [R.thn, h]
  · rw [List.getElem?_eq_none (by simp; omega), List.getElem?_eq_none (by rw [R.thn_len]; omega)]

theorem madeN_nil (w w' : World) (h : Below w.heap.size w w') : MadeN w [] (.returned (.slice none 0 0)) w' := ⟨_, rfl, World.ownsRow_nil _ _ _ _, h⟩

set_option maxHeartbeats 1000000 in
theorem table_any (v : Value) (l : List Bool) (n : Int) (w : World) (h : Gl .bool w v l) : Calls Try.prog 12 #[v, .int .i64 n] w (MadeN w (R.table l n)) := by
  obtain ⟨a, cap, rfl, hl, hmx, hna, -⟩ := h.open
  obtain ⟨W, hW⟩ : ∃ W, W = w.alloc (.cells #[.slice a l.length cap] 22) := ⟨_, rfl⟩
  have bW : Below w.heap.size w W := by rw [hW]; exact below_alloc _ _
  have y0 : W.cell? ⟨w.heap.size, 0, none⟩ = some (.slice a l.length cap) := by rw [hW]; simp [go_sem]
  have sW : W.heap.size = w.heap.size + 1 := by rw [hW]; simp
  have hW1 := h.below bW
  have HW := hide hW
  have HBW := hide bW
  clear hW bW
  cases hm : decide (l.length ≤ 64) with
  | false =>
    have HR : Hid (R.table l n = []) := by
      show _ = _
      unfold R.table
      rw [if_neg]
      rintro ⟨-, -, h9⟩
      rw [decide_eq_true h9] at hm
      cases hm
    have CM := lmay_any _ l W hW1 false hm
    clear hm
    go_enter Try.func12, Try.ntmps12
    go_wp2_with fail
    rw [← unhide HW]
    refine CM.mono ?_
    rintro e w1 ⟨rfl, rfl⟩
    go_wp2
    go_ret
    rw [unhide HR]
    exact madeN_nil _ _ (unhide HBW)
  | true =>
    have CM := lmay_any _ l W hW1 true hm
    have hlen : l.length ≤ 64 := of_decide_eq_true hm
    clear hm
    by_cases h0 : n < 0
    · have HR : Hid (R.table l n = []) := by
        show _ = _
        unfold R.table
        rw [if_neg (by omega)]
      go_enter Try.func12, Try.ntmps12
      go_wp2_with fail
      rw [← unhide HW]
      refine CM.mono ?_
      rintro e w1 ⟨rfl, rfl⟩
      go_wp2
      go_ret
      rw [unhide HR]
      exact madeN_nil _ _ (unhide HBW)
    · by_cases h1 : 1100 < n
      · have HR : Hid (R.table l n = []) := by
          show _ = _
          unfold R.table
          rw [if_neg (by omega)]
        go_enter Try.func12, Try.ntmps12
        go_wp2_with fail
        rw [← unhide HW]
        refine CM.mono ?_
        rintro e w1 ⟨rfl, rfl⟩
        go_wp2
        go_ret
        rw [unhide HR]
        exact madeN_nil _ _ (unhide HBW)
      · have HR : Hid (R.table l n = R.tab n l) := by
          show _ = _
          unfold R.table
          rw [if_pos (by omega)]
        obtain ⟨V, hV⟩ : ∃ V, V = W.alloc (.cells #[.int .i64 n] 3) := ⟨_, rfl⟩
        have bV : Below W.heap.size W V := by rw [hV]; exact below_alloc _ _
        have z0 : V.cell? ⟨w.heap.size, 0, none⟩ = some (.slice a l.length cap) := cellK10 y0 bV
        have z1 : V.cell? ⟨w.heap.size + 1, 0, none⟩ = some (.int .i64 n) := by rw [hV, ← sW]; simp [go_sem]
        have f1 : V.frozen? ⟨w.heap.size + 1, 0, none⟩ = false := by rw [hV, ← sW]; simp [go_sem]
        have sV : V.heap.size = w.heap.size + 2 := by rw [hV]; simp [sW]
        have bwV : Below w.heap.size w V := below_trans' (unhide HBW) bV
        have CE := eachT_any ⟨w.heap.size, 0, none⟩ ⟨w.heap.size + 1, 0, none⟩ l.length (by omega) (by omega) (fun i => if l.getD i false = true then n + (R.cnt (l.take i) : Int) else -1) (some (w.heap.size + 1))
          (fun i w1 => w1.cell? ⟨w.heap.size, 0, none⟩ = some (.slice a l.length cap) ∧ w1.cell? ⟨w.heap.size + 1, 0, none⟩ = some (.int .i64 (n + (R.cnt (l.take i) : Int))) ∧ w1.frozen? ⟨w.heap.size + 1, 0, none⟩ = false ∧ Below w.heap.size w w1) V
          (fun g hg => by cases hg; omega) ⟨z0, by simpa [R.cnt] using z1, f1, bwV⟩
          (fun i w1 w2 h1 h2 => ⟨cell10 h1.1 h2 (by show w.heap.size < _; omega), cell10 h1.2.1 h2 (by show w.heap.size + 1 < _; omega), froz10 h1.2.2.1 h2 (by show w.heap.size + 1 < _; omega), h1.2.2.2.trans (h2.mono (by omega))⟩)
          (fun i hi w1 h1 hg => by
            have hx := List.getElem?_eq_getElem hi
            have hcl := R.cnt_le (l.take i)
            rw [List.length_take] at hcl
            refine (cloT_any w.heap.size (w.heap.size + 1) i l _ _ w1 h1.1 h1.2.1 h1.2.2.1 (h.below h1.2.2.2) l[i] hx (by omega) (by omega)).mono ?_
            rintro e w2 ⟨rfl, rfl⟩
            have hgd : l.getD i false = l[i] := by simp [hi]
            have hst := R.cnt_step hx
            refine ⟨by rw [hgd], ?_, ?_⟩
            · cases hb : l[i] with
              | true =>
                rw [hb] at hst
                simp only [if_true] at hst ⊢
                refine ⟨?_, ?_, ?_, h1.2.2.2.setCell (p := ⟨w.heap.size + 1, 0, none⟩) (by show w.heap.size ≤ w.heap.size + 1; omega) _⟩
                · rw [World.cell?_of_block (w := w1) (Below.heap_setCell w1 _ _ _ (by simp))]
                  exact h1.1
                · rw [hst]
                  have := h1.2.1
                  have e9 : n + ((R.cnt (l.take i) + 1 : Nat) : Int) = n + (R.cnt (l.take i) : Int) + 1 := by omega
                  rw [e9]
                  simp [go_sem, this]
                · have := h1.2.2.1
                  simpa [go_sem] using this
              | false =>
                rw [hb] at hst
                simp only [Bool.false_eq_true, if_false, Nat.add_zero] at hst ⊢
                rw [hst]
                exact h1
            · cases l[i] with
              | true => exact ⟨rfl, rfl, rfl, by simp [World.setCell], fun k hk hne => Below.heap_setCell w1 _ _ _ (fun e => hne (by simp [e]))⟩
              | false => exact grown10_refl _ _)
        have HSV := hide sV
        clear sV
        have HV := hide hV
        have HBV := hide bwV
        clear hV bV z0 z1 f1 bwV hW1 h
        go_enter Try.func12, Try.ntmps12
        go_wp2_with fail
        rw [← unhide HW]
        refine CM.mono ?_
        rintro e w1 ⟨rfl, rfl⟩
        go_wp2_with fail
        rw [← unhide HV]
        refine CE.mono ?_
        rintro e w2 ⟨rfl, O2, -, G2⟩
        have HO := hide O2
        have HG := hide G2
        clear O2 G2 CE CM
        go_wp2
        go_ret
        have G := unhide HG
        have O := unhide HO
        rw [unhide HR]
        rw [R.tab_range] at O
        refine ⟨_, rfl, ?_, (unhide HBV).trans ⟨G.os, G.tape, G.output, G.size, fun k hk => G.block k (by have := unhide HSV; omega) (fun e => by cases e; omega)⟩⟩
        rw [R.tab_len]
        exact own_mono O (show w.heap.size ≤ V.heap.size by have := unhide HSV; omega)

set_option maxHeartbeats 1000000 in
theorem then_any (tv pv : Value) (t p : List Int) (w : World) (ht : Il w tv t) (hp : Il w pv p) (hlen : t.length ≤ 17592186044416) : Calls Try.prog 14 #[tv, pv] w (MadeN w (R.thn t p)) := by
  obtain ⟨a, cap, rfl, hl, hmx, hna, -⟩ := ht.open
  obtain ⟨a2, cap2, rfl, hl2, hmx2, hna2, -⟩ := hp.open
  obtain ⟨W, hW⟩ : ∃ W, W = (w.alloc (.cells #[.slice a t.length cap] 23)).alloc (.cells #[.slice a2 p.length cap2] 23) := ⟨_, rfl⟩
  have bW : Below w.heap.size w W := by rw [hW]; exact below_all (below_alloc _ _) _
  have y0 : W.cell? ⟨w.heap.size, 0, none⟩ = some (.slice a t.length cap) := by rw [hW]; simp [go_sem]
  have y1 : W.cell? ⟨w.heap.size + 1, 0, none⟩ = some (.slice a2 p.length cap2) := by rw [hW]; simp [go_sem]
  have sW : W.heap.size = w.heap.size + 2 := by rw [hW]; simp
  have CE := eachH_any ⟨w.heap.size, 0, none⟩ ⟨w.heap.size + 1, 0, none⟩ t.length (by omega) (by omega) (fun i => R.thn1 p (t.getD i 0)) none
    (fun i w1 => w1.cell? ⟨w.heap.size, 0, none⟩ = some (.slice a t.length cap) ∧ w1.cell? ⟨w.heap.size + 1, 0, none⟩ = some (.slice a2 p.length cap2) ∧ Below w.heap.size w w1) W
    (fun g hg => by cases hg) ⟨y0, y1, bW⟩
    (fun i w1 w2 h1 h2 => ⟨cell10 h1.1 h2 (by show w.heap.size < _; omega), cell10 h1.2.1 h2 (by show w.heap.size + 1 < _; omega), h1.2.2.trans (h2.mono (by omega))⟩)
    (fun i hi w1 h1 hg => by
      have hx := List.getElem?_eq_getElem hi
      refine (cloH_any w.heap.size (w.heap.size + 1) i t p _ _ w1 h1.1 h1.2.1 (ht.below h1.2.2) (hp.below h1.2.2) t[i] hx).mono ?_
      rintro e w2 ⟨rfl, b2⟩
      have hgd : t.getD i 0 = t[i] := by simp [hi]
      refine ⟨by rw [hgd], ⟨cellK10 h1.1 b2, cellK10 h1.2.1 b2, below_trans' h1.2.2 b2⟩, grown10_of none b2⟩)
  have HSW := hide sW
  clear sW
  have HW := hide hW
  have HBW := hide bW
  clear hW bW ht hp
  go_enter Try.func14, Try.ntmps14
  go_wp2_with fail
  rw [← unhide HW]
  refine CE.mono ?_
  rintro e w2 ⟨rfl, O2, -, G2⟩
  have HO := hide O2
  have HG := hide (below_trans' (unhide HBW) (grown10_none G2))
  clear O2 G2 CE
  go_wp2
  go_ret
  have O := unhide HO
  rw [R.thn_range] at O
  refine ⟨_, rfl, ?_, unhide HG⟩
  rw [R.thn_len]
  exact own_mono O (show w.heap.size ≤ W.heap.size by have := unhide HSW; omega)
end Go.Proofs.Ytggojmnalmjapaa
