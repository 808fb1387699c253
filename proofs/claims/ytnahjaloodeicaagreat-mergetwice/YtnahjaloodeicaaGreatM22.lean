/-
  Texts put together: Order10.
-/
import Derived.Test.YtnahjaloodeicaaGreatM21
import Derived.Laws.EntriesVeiled
/-
  The contracts of places and of Order.
-/
namespace Go.Proofs.YtnahjaloodeicaaGreat
set_option maxRecDepth 100000
open Go.RowKit Go.Deep

theorem R.ord_len (keys : List Int) (ids : List ByteArray) (n : Nat) : (R.ord keys ids n).length = n := by
  rw [(R.ord_sorted keys ids n).2.length_eq]
  simp
theorem below10_of {w w1 w2 : World} {g : Nat} (h : Below w.heap.size w w1) (hg : w1.grownBy w2 (some g)) (hgw : w.heap.size ≤ g) : Below w.heap.size w w2 := h.grown hg h.size (fun k hk => by cases hk; exact hgw)

set_option maxHeartbeats 1000000 in
theorem places10_any (P Q n : Nat) (kv iv : Value) (keys : List Int) (ids : List ByteArray) (w0 w : World) (hn1 : n ≤ 1100)
    (hk : Il w0 kv keys) (hi : Gl .string w0 iv ids) (hb0 : Below w0.heap.size w0 w) (hP : w.cell? ⟨P, 0, none⟩ = some kv) (hQ : w.cell? ⟨Q, 0, none⟩ = some iv) (hlk : keys.length = n) (hli : ids.length = n) :
    Calls Tryz.prog 112 #[.agg #[.int .i64 (n : Int), .func (.func 111) #[] #[.pointer (some ⟨P, 0, none⟩), .pointer (some ⟨Q, 0, none⟩)]]] w fun e w' =>
      ∃ v', e = .returned v' ∧ w'.ownsRow w.heap.size 3 1 v' n (R.row (R.ord keys ids n)) ∧ Below w.heap.size w w' := by
  obtain ⟨W, hW⟩ : ∃ W, W = w.alloc (.cells #[.int .i64 (n : Int), .func (.func 111) #[] #[.pointer (some ⟨P, 0, none⟩), .pointer (some ⟨Q, 0, none⟩)]] 160) := ⟨_, rfl⟩
  have bW : Below w.heap.size w W := by rw [hW]; exact below_alloc _ _
  have y0 : W.cell? ⟨w.heap.size, 0, none⟩ = some (.int .i64 (n : Int)) := by rw [hW]; simp [go_sem]
  have y1 : W.cell? ⟨w.heap.size, 1, none⟩ = some (.func (.func 111) #[] #[.pointer (some ⟨P, 0, none⟩), .pointer (some ⟨Q, 0, none⟩)]) := by rw [hW]; simp [go_sem]
  have sW : W.heap.size = w.heap.size + 1 := by rw [hW]; simp
  have hPw := World.block_lt_of_cell? w _ hP
  have hQw := World.block_lt_of_cell? w _ hQ
  have CE := eachP_any n (by omega) (by omega) (fun i => (i : Int)) none (fun _ _ => True) W (fun g hg => by cases hg) trivial (fun _ _ _ _ _ => trivial)
      (fun i _ w1 _ _ => (cloP_any i w1).mono fun e w2 ⟨h1, h2⟩ => ⟨h1, trivial, by rw [h2]; exact grown10_refl _ _⟩)
  have HW := hide hW
  have HBW := hide bW
  have HSW := hide sW
  clear hW bW sW
  go_enter Tryz.func112, Tryz.ntmps112
  go_wp2_with fail
  rw [← unhide HW]
  refine CE.mono ?_
  rintro e w1 ⟨rfl, O1, -, G1⟩
  have B1 := grown10_none G1
  have x1 := cellK10 y1 B1
  have BB := below_trans' (unhide HBW) B1
  have p1 := cellK10 hP BB
  have q1 := cellK10 hQ BB
  by_cases h0 : n = 0
  · subst h0
    have CS := sort10_none (some ⟨W.heap.size, 0, none⟩) 0 (.func (.func 111) #[] #[.pointer (some ⟨P, 0, none⟩), .pointer (some ⟨Q, 0, none⟩)]) w1
    have HO := hide O1
    have HB := hide BB
    clear O1 G1 B1 BB CE
    go_wp2_with fail
    refine CS.mono ?_
    rintro e w2 ⟨rfl, rfl⟩
    clear CS
    go_wp2
    go_ret
    exact ⟨_, rfl, own_mono (unhide HO) (show w.heap.size ≤ W.heap.size by have := unhide HSW; omega), unhide HB⟩
  · have hs := unhide HSW
    have CS := sort10_any W.heap.size W.heap.size n n P Q kv iv keys ids w0 w1 (by omega) hn1 O1 hk hi (below_trans' hb0 BB) (by have := hb0.size; omega) p1 q1 (by have h9 : P < w.heap.size := hPw; omega) (by have h9 : Q < w.heap.size := hQw; omega) hlk hli
    have HB := hide BB
    clear O1 G1 B1 BB CE hs hk hi hlk hli
    go_wp2_with fail
    refine CS.mono ?_
    rintro e w2 ⟨rfl, O2, G2⟩
    have HO := hide O2
    have HB2 := hide (below10_of (unhide HB) G2 (by have := unhide HSW; omega))
    clear CS O2 G2
    go_wp2
    go_ret
    exact ⟨_, rfl, own_mono (unhide HO) (show w.heap.size ≤ W.heap.size by have := unhide HSW; omega), unhide HB2⟩

set_option maxHeartbeats 1000000 in
theorem order_any (kv iv : Value) (keys : List Int) (ids : List ByteArray) (w : World) (hk : Il w kv keys) (hi : Gl .string w iv ids) : Calls Tryz.prog 93 #[kv, iv] w (MadeN w (R.order keys ids)) := by
  obtain ⟨a, cap, rfl, hl, hmx, hna, -⟩ := hk.open
  obtain ⟨a2, cap2, rfl, hl2, hmx2, hna2, -⟩ := hi.open
  obtain ⟨W, hW⟩ : ∃ W, W = (w.alloc (.cells #[.slice a keys.length cap] 27)).alloc (.cells #[.slice a2 ids.length cap2] 26) := ⟨_, rfl⟩
  have bW : Below w.heap.size w W := by rw [hW]; exact below_all (below_alloc _ _) _
  have y0 : W.cell? ⟨w.heap.size, 0, none⟩ = some (.slice a keys.length cap) := by rw [hW]; simp [go_sem]
  have y1 : W.cell? ⟨w.heap.size + 1, 0, none⟩ = some (.slice a2 ids.length cap2) := by rw [hW]; simp [go_sem]
  have sW : W.heap.size = w.heap.size + 2 := by rw [hW]; simp
  by_cases hq : keys.length = ids.length ∧ keys.length ≤ 1100
  · have HR : Hid (R.order keys ids = (R.ord keys ids keys.length).map fun i : Nat => (i : Int)) := hide (if_pos hq)
    have h1 : ((keys.length : Int) != (ids.length : Int)) = false := by simp [hq.1]
    have h2 := hq.2
    obtain ⟨V, hV⟩ : ∃ V, V = W.alloc (.cells #[.int .i64 (keys.length : Int), .func (.func 111) #[] #[.pointer (some ⟨w.heap.size, 0, none⟩), .pointer (some ⟨w.heap.size + 1, 0, none⟩)]] 160) := ⟨_, rfl⟩
    have bV : Below W.heap.size W V := by rw [hV]; exact below_alloc _ _
    have z0 := cellK10 y0 bV
    have z1 := cellK10 y1 bV
    have BV := below_trans' bW bV
    have CP := places10_any w.heap.size (w.heap.size + 1) keys.length _ _ keys ids w V h2 hk hi BV z0 z1 rfl hq.1.symm
    have HW := hide hW
    have HV := hide hV
    have HBV := hide BV
    clear hW hV bV z0 z1 BV bW hq hk hi
    go_enter Tryz.func93, Tryz.ntmps93
    go_wp2_with (first | (rw [← unhide HW]; fail) | fail)
    rw [← unhide HW, ← unhide HV]
    refine CP.mono ?_
    rintro e w2 ⟨v2, rfl, O2, B2⟩
    have HO := hide O2
    have HB := hide B2
    clear CP O2 B2
    go_wp2
    go_ret
    rw [unhide HR]
    refine ⟨_, rfl, ?_, below_trans' (unhide HBV) (unhide HB)⟩
    rw [List.length_map, R.ord_len]
    exact own_mono (unhide HO) (unhide HBV).size
  · have HR : Hid (R.order keys ids = []) := hide (if_neg hq)
    have HW := hide hW
    have HBW := hide bW
    by_cases h1 : keys.length = ids.length
    · have h2 : (1100 : Int) < (keys.length : Int) := by omega
      have h3 : ((keys.length : Int) != (ids.length : Int)) = false := by simp [h1]
      clear hW bW hk hi hq h1
      go_enter Tryz.func93, Tryz.ntmps93
      go_wp2
      go_ret
      rw [unhide HR]
      exact ⟨_, rfl, World.ownsRow_nil _ _ _ _, below_all (below_alloc _ _) _⟩
    · have h3 : ((keys.length : Int) != (ids.length : Int)) = true := by simp; omega
      clear hW bW hk hi hq
      go_enter Tryz.func93, Tryz.ntmps93
      go_wp2
      go_ret
      rw [unhide HR]
      exact ⟨_, rfl, World.ownsRow_nil _ _ _ _, below_all (below_alloc _ _) _⟩
end Go.Proofs.YtnahjaloodeicaaGreat
