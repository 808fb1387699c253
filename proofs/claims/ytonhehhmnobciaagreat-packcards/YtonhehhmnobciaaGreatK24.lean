/-
  Texts put together: Seg9.
-/
import Derived.Test.YtonhehhmnobciaaGreatK19
import Derived.Test.YtonhehhmnobciaaGreatK16
import Derived.Test.YtonhehhmnobciaaGreatK22
/-
  The contract of segment: all parts of one, read of bytes.
-/
namespace Go.Proofs.YtonhehhmnobciaaGreat
set_option maxRecDepth 100000
open Go.RowKit

theorem J.words_len (s : Sr) : (J.words s).1.length ≤ 200 := by
  unfold J.words
  rcases D.unR_cases (J.cut s).1 with e | ⟨l, e, e2, -⟩
  · rw [e]; simp
  · rw [e]; exact D.may_len e2
/-- A store into a box leaves a row of another kind. -/
theorem own_box {w : World} {B b K n : Nat} {e T : TypeId} {v : Value} {xs : List Value} {cs : Array Value} {fr : Nat × Nat} (h : w.ownsRow B e K v n xs) (hb : w.heap[b]? = some (.cells cs T fr)) (hT : T ≠ e) (j : Nat) (u : Value) : (w.setCell ⟨b, j, none⟩ u).ownsRow B e K v n xs :=
  own_set h (fun k hk e => by
    simp only at e
    subst e
    exact own_ne_box h hb hT hk.symm) u
theorem own_first {w : World} {B e K n m cap : Nat} {xs : List Value} {wa : Option Addr} (h : w.ownsRow B e K (.slice wa m cap) n xs) {x : Addr} (hx : wa = some x) : B ≤ x.block := by
  subst hx
  rcases h.2 with ⟨h1, -⟩ | ⟨g, c, cur, h1, hb, -⟩
  · cases h1
  · simp only [Value.slice.injEq, Option.some.injEq] at h1
    rw [h1.1]
    exact hb
theorem PlO.box {B b : Nat} {w : World} {v : Value} {L : List Pt} {cs : Array Value} {T : TypeId} {fr : Nat × Nat} (h : PlO B w v L) (hb : w.heap[b]? = some (.cells cs T fr)) (h1 : T ≠ 95) (h2 : T ≠ 3) (j : Nat) (u : Value) : PlO B (w.setCell ⟨b, j, none⟩ u) v L :=
  h.keep (fun _ _ _ h => own_box h hb h1 j u) (fun _ _ h => own_box h hb h2 j u)
theorem TmO.box {B b : Nat} {w : World} {v : Value} {L : List Tm} {cs : Array Value} {T : TypeId} {fr : Nat × Nat} (h : TmO B w v L) (hb : w.heap[b]? = some (.cells cs T fr)) (h0 : T ≠ 57) (h1 : T ≠ 95) (h2 : T ≠ 3) (j : Nat) (u : Value) : TmO B (w.setCell ⟨b, j, none⟩ u) v L := by
  obtain ⟨ps, k1, k2, k3⟩ := h
  exact ⟨ps, own_box k1 hb h0 j u, k2, fun p hp => (k3 p hp).box hb h1 h2 j u⟩

/-- A segment, all of the call's own. -/
def SvO (B : Nat) (w : World) (iv kv lv tv : Value) (s : Sg) : Prop :=
  w.ownsRow B 9 1 iv s.ids.length (s.ids.map Value.string) ∧ w.ownsRow B 3 1 kv s.keys.length (s.keys.map (Value.int .i64)) ∧ w.ownsRow B 3 1 lv s.lens.length (s.lens.map (Value.int .i64)) ∧ TmO B w tv s.ts
theorem SvO.sv {B : Nat} {w : World} {iv kv lv tv : Value} {s : Sg} (h : SvO B w iv kv lv tv s) : Sv w iv kv lv tv s := ⟨Gl.owned h.1, Sl.owned h.2.1, Sl.owned h.2.2.1, h.2.2.2.ts⟩
theorem SvO.below {B : Nat} {w w' : World} {iv kv lv tv : Value} {s : Sg} (h : SvO B w iv kv lv tv s) (hb : Below w.heap.size w w') : SvO B w' iv kv lv tv s := ⟨own_below h.1 hb, own_below h.2.1 hb, own_below h.2.2.1 hb, h.2.2.2.below hb⟩
theorem SvO.box {B b : Nat} {w : World} {iv kv lv tv : Value} {s : Sg} {cs : Array Value} {fr : Nat × Nat} (h : SvO B w iv kv lv tv s) (hb : w.heap[b]? = some (.cells cs 29 fr)) (j : Nat) (u : Value) : SvO B (w.setCell ⟨b, j, none⟩ u) iv kv lv tv s :=
  ⟨own_box h.1 hb (by decide) j u, own_box h.2.1 hb (by decide) j u, own_box h.2.2.1 hb (by decide) j u, h.2.2.2.box hb (by decide) (by decide) (by decide) j u⟩
/-- The five stores into a result's box. -/
theorem SvO.five {B b : Nat} {w : World} {iv kv lv tv : Value} {s : Sg} {cs : Array Value} (h : SvO B w iv kv lv tv s) (hb : w.heap[b]? = some (.cells cs 29 (0, 0))) (a0 a1 a2 a3 a4 : Value) : SvO B (five w b a0 a1 a2 a3 a4) iv kv lv tv s := by
  have g1 := bset hb 0 a0
  have g2 := bset g1 1 a1
  have g3 := bset g2 2 a2
  have g4 := bset g3 3 a3
  exact ((((h.box hb 0 a0).box g1 1 a1).box g2 2 a2).box g3 3 a3).box g4 4 a4
theorem five_grown (w : World) (b : Nat) (a0 a1 a2 a3 a4 : Value) : w.grownBy (five w b a0 a1 a2 a3 a4) (some b) :=
  ((((grown_set _ ⟨b, 0, none⟩ _).trans (grown_set _ ⟨b, 1, none⟩ _)).trans (grown_set _ ⟨b, 2, none⟩ _)).trans (grown_set _ ⟨b, 3, none⟩ _)).trans (grown_set _ ⟨b, 4, none⟩ _)
theorem seg_end9 {w w1 : World} {g N b : Nat} {iv kv lv tv : Value} {ids : List ByteArray} {keys lens : List Int} {ts : List Tm} {so : Bool} {s : Sr} {cs : Array Value} (h1 : w1.ownsRow w.heap.size 9 1 iv ids.length (ids.map Value.string)) (h2 : w1.ownsRow w.heap.size 3 1 kv keys.length (keys.map (Value.int .i64))) (h3 : w1.ownsRow w.heap.size 3 1 lv lens.length (lens.map (Value.int .i64))) (h4 : TmO w.heap.size w1 tv ts)
    (hR : w1.heap[b]? = some (.cells cs 29 (0, 0))) (hb : Sb g N w1 s) (hg : w.grownBy w1 (some g)) (hbw : w.heap.size ≤ b) (hN : N ≤ w.heap.size) (hgw : g < w.heap.size) :
    SvO w.heap.size (five w1 b iv kv lv tv (.bool so)) iv kv lv tv ⟨ids, keys, lens, ts⟩ ∧ Sb g N (five w1 b iv kv lv tv (.bool so)) s ∧ w.grownBy (five w1 b iv kv lv tv (.bool so)) (some g) :=
  ⟨SvO.five ⟨h1, h2, h3, h4⟩ hR _ _ _ _ _, hb.grown (five_grown _ _ _ _ _ _ _) (by simp; omega) (fun q hq => by simp at hq; omega), grown_own hg (five_grown _ _ _ _ _ _ _) (fun j hj => by simp at hj; omega)⟩

set_option maxRecDepth 100000 in
set_option maxHeartbeats 4000000 in
theorem seg9_any (g N : Nat) (s : Sr) (w : World) (h : Sb g N w s) (hNw : N ≤ w.heap.size) :
    Calls Tryz.prog 28 #[.pointer (some ⟨g, 0, none⟩)] w fun e w' => ∃ iv kv lv tv, e = .returned (.agg #[iv, kv, lv, tv, .bool (J.so s)]) ∧ SvO w.heap.size w' iv kv lv tv (J.sg s) ∧ Sb g N w' (J.s7 s) ∧ w.grownBy w' (some g) := by
  obtain ⟨so, s1, h1⟩ : ∃ a b, J.flag s = (a, b) := ⟨_, _, rfl⟩
  obtain ⟨n, s2, h2⟩ : ∃ a b, J.number s1 = (a, b) := ⟨_, _, rfl⟩
  have hby1 : V.Byt s1.left := by have := J.flag_byt h.choose_spec.choose_spec.2.2.1; rw [h1] at this; exact this
  have hnr := J.number_range hby1
  rw [h2] at hnr
  simp only at hnr
  obtain ⟨d, rfl⟩ := Int.eq_ofNat_of_zero_le hnr.1
  have hd : d ≤ 34359738367 := by omega
  obtain ⟨ids, s3, h3⟩ : ∃ a b, J.many (fun _ => J.text) d 0 s2 = (a, b) := ⟨_, _, rfl⟩
  obtain ⟨keys, s4, h4⟩ : ∃ a b, J.many (fun _ => J.number) d 0 s3 = (a, b) := ⟨_, _, rfl⟩
  obtain ⟨lens, s5, h5⟩ : ∃ a b, J.many (fun _ => J.number) d 0 s4 = (a, b) := ⟨_, _, rfl⟩
  obtain ⟨ws, s6, h6⟩ : ∃ a b, J.words s5 = (a, b) := ⟨_, _, rfl⟩
  obtain ⟨ts, s7, h7⟩ : ∃ a b, J.many (J.term ws) ws.length 0 s6 = (a, b) := ⟨_, _, rfl⟩
  have hwl : ws.length ≤ 1000 := by have := J.words_len s5; rw [h6] at this; simp only at this; omega
  have HE : Hid (J.sg s = ⟨ids, keys, lens, ts⟩ ∧ J.so s = so ∧ J.s7 s = s7) := by
    have e1 : J.s1 s = s1 := by unfold J.s1; rw [h1]
    have e2 : J.docs s = d := by unfold J.docs; rw [e1, h2]; simp
    have e3 : J.s2 s = s2 := by unfold J.s2; rw [e1, h2]
    have e4 : J.ids s = ids ∧ J.s3 s = s3 := by unfold J.ids J.s3; rw [e2, e3, h3]; exact ⟨rfl, rfl⟩
    have e5 : J.keys s = keys ∧ J.s4 s = s4 := by unfold J.keys J.s4; rw [e2, e4.2, h4]; exact ⟨rfl, rfl⟩
    have e6 : J.lens s = lens ∧ J.s5 s = s5 := by unfold J.lens J.s5; rw [e2, e5.2, h5]; exact ⟨rfl, rfl⟩
    have e7 : J.ws s = ws ∧ J.s6 s = s6 := by unfold J.ws J.s6; rw [e6.2, h6]; exact ⟨rfl, rfl⟩
    have e8 : J.ts s = ts ∧ J.s7 s = s7 := by unfold J.ts J.s7; rw [e7.1, e7.2, h7]; exact ⟨rfl, rfl⟩
    refine ⟨?_, ?_, e8.2⟩
    · unfold J.sg; rw [e4.1, e5.1, e6.1, e8.1]
    · unfold J.so; rw [h1]
  have hgw := h.lt
  have hPg : w.heap.size ≠ g := by omega
  obtain ⟨w0, hw0⟩ : ∃ w0, w0 = (w.alloc (.cells #[.pointer (some ⟨g, 0, none⟩)] 100)).alloc (.cells #[.slice none 0 0, .slice none 0 0, .slice none 0 0, .slice none 0 0, .bool false] 29) := ⟨_, rfl⟩
  have B0 : Below w.heap.size w w0 := by rw [hw0]; exact below_all (below_alloc _ _) _
  have cP0 : w0.cell? ⟨w.heap.size, 0, none⟩ = some (.pointer (some ⟨g, 0, none⟩)) := by rw [hw0]; exact cell_keep (box_cell (heap_alloc_new w _) rfl) (below_alloc _ _)
  have R0 : w0.heap[w.heap.size + 1]? = some (.cells #[.slice none 0 0, .slice none 0 0, .slice none 0 0, .slice none 0 0, .bool false] 29 (0, 0)) := by
    rw [hw0]
    have := heap_alloc_new (w.alloc (.cells #[.pointer (some ⟨g, 0, none⟩)] 100)) (.cells #[.slice none 0 0, .slice none 0 0, .slice none 0 0, .slice none 0 0, .bool false] 29)
    simpa using this
  have b0 := h.below B0
  have GG0 := grown_below B0 (some g)
  have sz0 := B0.size
  have sz0' : w.heap.size + 1 < w0.heap.size := (Array.getElem?_eq_some_iff.1 R0).1
  have C1 := flag9_any g N s w0 b0
  rw [h1] at C1
  have HW0 := hide hw0
  have H2 := hide h2
  have H3 := hide h3
  have H4 := hide h4
  have H5 := hide h5
  have H6 := hide h6
  have H7 := hide h7
  clear hw0 h B0 b0 h1 h2 h3 h4 h5 h6 h7 hnr hby1
  go_enter Tryz.func28, Tryz.ntmps28
  go_wp2_with fail
  rw [← unhide HW0]
  refine C1.mono ?_
  rintro e w1 ⟨rfl, b1, G1⟩
  try simp only at b1
  have cP1 := G1.cell cP0 (by simpa using hPg)
  have R1 := box_grown R0 G1 (by simp; omega)
  have GG1 := GG0.trans G1
  have sz1 : w.heap.size ≤ w1.heap.size := GG1.size
  have sy1 := G1.size
  clear cP0 R0 GG0 G1 
  obtain ⟨w2, hw2⟩ : ∃ w2, w2 = w1.alloc (.cells #[.slice none 0 0, .slice none 0 0, .slice none 0 0, .slice none 0 0, .bool so] 29) := ⟨_, rfl⟩
  obtain ⟨ub, hub⟩ : ∃ ub, ub = w1.heap.size := ⟨_, rfl⟩
  have hubw : w.heap.size + 1 < ub := by omega
  have B2 : Below w1.heap.size w1 w2 := by rw [hw2]; exact below_alloc _ _
  have cP2 := cell_keep cP1 B2
  have R2 := box_below R1 B2
  have U2 : w2.heap[ub]? = some (.cells #[.slice none 0 0, .slice none 0 0, .slice none 0 0, .slice none 0 0, .bool so] 29 (0, 0)) := by rw [hw2, hub]; exact heap_alloc_new w1 _
  have GG2 := GG1.trans (grown_below B2 (some g))
  have b2 := b1.below B2
  have C2 := num9_any g N s1 w2 b2
  rw [unhide H2] at C2
  have HW2 := hide hw2
  have HUB := hide hub
  have neP : w.heap.size ≠ ub := by omega
  have neP' : ub ≠ w.heap.size := by omega
  have ltP : w.heap.size < w1.heap.size := by omega
  clear hw2 hub R1 GG1 b1 B2 b2 C1
  go_wp2_with fail
  rw [← unhide HW2, ← unhide HUB]
  refine C2.mono ?_
  rintro e w3 ⟨rfl, b3, G3⟩
  clear cP1 ltP
  try simp only at b3
  have cP3 := G3.cell cP2 (by simpa using hPg)
  have R3 := box_grown R2 G3 (by simp; omega)
  have GG3 := GG2.trans G3
  have sz3 : w.heap.size ≤ w3.heap.size := GG3.size
  have sy3 := G3.size
  have U3 := box_grown U2 G3 (by simp; omega)
  clear cP2 R2 GG2 G3 U2 
  have C3 := manyS_any g N w.heap.size d s2 w3 hd b3 (by omega) cP3 hPg _ (unhide H3)
  clear b3 C2
  go_wp2_with fail
  refine C3.mono ?_
  rintro e w4 ⟨v4, rfl, OI4, b4, G4⟩
  try simp only at OI4 b4
  have OI4 := own_mono OI4 (show w.heap.size ≤ w3.heap.size by omega)
  obtain ⟨ia, ic, hv4, -⟩ := id (Gl.owned OI4)
  subst hv4
  have cP4 := G4.cell cP3 (by simpa using hPg)
  have R4 := box_grown R3 G4 (by simp; omega)
  have GG4 := GG3.trans G4
  have sz4 : w.heap.size ≤ w4.heap.size := GG4.size
  have sy4 := G4.size
  have U4 := box_grown U3 G4 (by simp; omega)
  clear cP3 R3 GG3 G4 U3 
  obtain ⟨w5, hw5⟩ : ∃ w5, w5 = w4.setCell ⟨ub, 0, none⟩ (.slice ia ids.length ic) := ⟨_, rfl⟩
  have ux4 := box_cell U4 (j := 0) rfl
  have uf4 := bfro U4 0
  have cP5 : w5.cell? ⟨w.heap.size, 0, none⟩ = some (.pointer (some ⟨g, 0, none⟩)) := by rw [hw5]; exact (grown_set _ ⟨ub, 0, none⟩ _).cell cP4 (by simp; omega)
  have R5 : w5.heap[w.heap.size + 1]? = some (.cells #[.slice none 0 0, .slice none 0 0, .slice none 0 0, .slice none 0 0, .bool false] 29 (0, 0)) := by rw [hw5]; exact bfar R4 (by show w.heap.size + 1 ≠ ub; omega) _
  have U5 : w5.heap[ub]? = some (.cells #[.slice ia ids.length ic, .slice none 0 0, .slice none 0 0, .slice none 0 0, .bool so] 29 (0, 0)) := by rw [hw5]; exact bset U4 0 _
  have GG5 : w.grownBy w5 (some g) := by rw [hw5]; exact grown_own GG4 (grown_set _ ⟨ub, 0, none⟩ _) (fun k hk => by simp at hk; omega)
  have b5 : Sb g N w5 s3 := by rw [hw5]; exact b4.grown (grown_set _ ⟨ub, 0, none⟩ _) (by simp; omega) (fun k hk => by simp at hk; omega)
  have sy5 : ub < w5.heap.size := (Array.getElem?_eq_some_iff.1 U5).1
  have sz5 : w.heap.size ≤ w5.heap.size := GG5.size
  have OI5 : w5.ownsRow w.heap.size 9 1 (.slice ia ids.length ic) ids.length (ids.map Value.string) := by rw [hw5]; exact own_box OI4 U4 (by decide) 0 _
  have HW5 := hide hw5
  clear hw5 GG4 b4 OI4
  have C5 := manyI_any g N w.heap.size d s3 w5 hd b5 (by omega) cP5 hPg _ (unhide H4)
  clear b5 C3
  go_wp2_with fail
  rw [← unhide HW5]
  refine C5.mono ?_
  rintro e w6 ⟨v6, rfl, OK6, b6, G6⟩
  try simp only at OK6 b6
  have OK6 := own_mono OK6 (show w.heap.size ≤ w5.heap.size by omega)
  obtain ⟨ka, kc, hv6, -⟩ := id (Sl.owned OK6)
  subst hv6
  have cP6 := G6.cell cP5 (by simpa using hPg)
  have R6 := box_grown R5 G6 (by simp; omega)
  have GG6 := GG5.trans G6
  have sz6 : w.heap.size ≤ w6.heap.size := GG6.size
  have sy6 := G6.size
  have U6 := box_grown U5 G6 (by simp; omega)
  have OI6 := own_far OI5 G6 hgw
  clear cP5 R5 GG5 G6 U5 OI5
  obtain ⟨w7, hw7⟩ : ∃ w7, w7 = w6.setCell ⟨ub, 1, none⟩ (.slice ka keys.length kc) := ⟨_, rfl⟩
  have ux6 := box_cell U6 (j := 1) rfl
  have uf6 := bfro U6 1
  have cP7 : w7.cell? ⟨w.heap.size, 0, none⟩ = some (.pointer (some ⟨g, 0, none⟩)) := by rw [hw7]; exact (grown_set _ ⟨ub, 1, none⟩ _).cell cP6 (by simp; omega)
  have R7 : w7.heap[w.heap.size + 1]? = some (.cells #[.slice none 0 0, .slice none 0 0, .slice none 0 0, .slice none 0 0, .bool false] 29 (0, 0)) := by rw [hw7]; exact bfar R6 (by show w.heap.size + 1 ≠ ub; omega) _
  have U7 : w7.heap[ub]? = some (.cells #[.slice ia ids.length ic, .slice ka keys.length kc, .slice none 0 0, .slice none 0 0, .bool so] 29 (0, 0)) := by rw [hw7]; exact bset U6 1 _
  have GG7 : w.grownBy w7 (some g) := by rw [hw7]; exact grown_own GG6 (grown_set _ ⟨ub, 1, none⟩ _) (fun k hk => by simp at hk; omega)
  have b7 : Sb g N w7 s4 := by rw [hw7]; exact b6.grown (grown_set _ ⟨ub, 1, none⟩ _) (by simp; omega) (fun k hk => by simp at hk; omega)
  have sy7 : ub < w7.heap.size := (Array.getElem?_eq_some_iff.1 U7).1
  have sz7 : w.heap.size ≤ w7.heap.size := GG7.size
  have OI7 : w7.ownsRow w.heap.size 9 1 (.slice ia ids.length ic) ids.length (ids.map Value.string) := by rw [hw7]; exact own_box OI6 U6 (by decide) 1 _
  have OK7 : w7.ownsRow w.heap.size 3 1 (.slice ka keys.length kc) keys.length (keys.map (Value.int .i64)) := by rw [hw7]; exact own_box OK6 U6 (by decide) 1 _
  have HW7 := hide hw7
  clear hw7 GG6 b6 OI6 OK6
  have C7 := manyJ_any g N w.heap.size d s4 w7 hd b7 (by omega) cP7 hPg _ (unhide H5)
  clear b7 C5 ux4 uf4 U4 R4 cP4
  go_wp2_with fail
  rw [← unhide HW7]
  refine C7.mono ?_
  rintro e w8 ⟨v8, rfl, OL8, b8, G8⟩
  try simp only at OL8 b8
  have OL8 := own_mono OL8 (show w.heap.size ≤ w7.heap.size by omega)
  obtain ⟨la, lc, hv8, -⟩ := id (Sl.owned OL8)
  subst hv8
  have cP8 := G8.cell cP7 (by simpa using hPg)
  have R8 := box_grown R7 G8 (by simp; omega)
  have GG8 := GG7.trans G8
  have sz8 : w.heap.size ≤ w8.heap.size := GG8.size
  have sy8 := G8.size
  have U8 := box_grown U7 G8 (by simp; omega)
  have OI8 := own_far OI7 G8 hgw
  have OK8 := own_far OK7 G8 hgw
  clear cP7 R7 GG7 G8 U7 OI7 OK7
  obtain ⟨w9, hw9⟩ : ∃ w9, w9 = w8.setCell ⟨ub, 2, none⟩ (.slice la lens.length lc) := ⟨_, rfl⟩
  have ux8 := box_cell U8 (j := 2) rfl
  have uf8 := bfro U8 2
  have cP9 : w9.cell? ⟨w.heap.size, 0, none⟩ = some (.pointer (some ⟨g, 0, none⟩)) := by rw [hw9]; exact (grown_set _ ⟨ub, 2, none⟩ _).cell cP8 (by simp; omega)
  have R9 : w9.heap[w.heap.size + 1]? = some (.cells #[.slice none 0 0, .slice none 0 0, .slice none 0 0, .slice none 0 0, .bool false] 29 (0, 0)) := by rw [hw9]; exact bfar R8 (by show w.heap.size + 1 ≠ ub; omega) _
  have U9 : w9.heap[ub]? = some (.cells #[.slice ia ids.length ic, .slice ka keys.length kc, .slice la lens.length lc, .slice none 0 0, .bool so] 29 (0, 0)) := by rw [hw9]; exact bset U8 2 _
  have GG9 : w.grownBy w9 (some g) := by rw [hw9]; exact grown_own GG8 (grown_set _ ⟨ub, 2, none⟩ _) (fun k hk => by simp at hk; omega)
  have b9 : Sb g N w9 s5 := by rw [hw9]; exact b8.grown (grown_set _ ⟨ub, 2, none⟩ _) (by simp; omega) (fun k hk => by simp at hk; omega)
  have sy9 : ub < w9.heap.size := (Array.getElem?_eq_some_iff.1 U9).1
  have sz9 : w.heap.size ≤ w9.heap.size := GG9.size
  have OI9 : w9.ownsRow w.heap.size 9 1 (.slice ia ids.length ic) ids.length (ids.map Value.string) := by rw [hw9]; exact own_box OI8 U8 (by decide) 2 _
  have OK9 : w9.ownsRow w.heap.size 3 1 (.slice ka keys.length kc) keys.length (keys.map (Value.int .i64)) := by rw [hw9]; exact own_box OK8 U8 (by decide) 2 _
  have OL9 : w9.ownsRow w.heap.size 3 1 (.slice la lens.length lc) lens.length (lens.map (Value.int .i64)) := by rw [hw9]; exact own_box OL8 U8 (by decide) 2 _
  have HW9 := hide hw9
  clear hw9 GG8 b8 OI8 OK8 OL8
  have C9 := words9_any g N s5 w9 b9
  rw [unhide H6] at C9
  clear b9 C7 ux6 uf6 U6 R6 cP6
  go_wp2_with fail
  rw [← unhide HW9]
  refine C9.mono ?_
  rintro e w10 ⟨v10, rfl, OW10, b10, G10⟩
  try simp only at OW10 b10
  have OW10 := own_mono OW10 (show w.heap.size ≤ w9.heap.size by omega)
  obtain ⟨wa, wc, hv10, -⟩ := id (Gl.owned OW10)
  subst hv10
  have cP10 := G10.cell cP9 (by simpa using hPg)
  have R10 := box_grown R9 G10 (by simp; omega)
  have GG10 := GG9.trans G10
  have sz10 : w.heap.size ≤ w10.heap.size := GG10.size
  have sy10 := G10.size
  have U10 := box_grown U9 G10 (by simp; omega)
  have OI10 := own_far OI9 G10 hgw
  have OK10 := own_far OK9 G10 hgw
  have OL10 := own_far OL9 G10 hgw
  clear cP9 R9 GG9 G10 U9 OI9 OK9 OL9
  obtain ⟨w11, hw11⟩ : ∃ w11, w11 = w10.alloc (.cells #[.slice wa ws.length wc] 25) := ⟨_, rfl⟩
  obtain ⟨wb, hwb⟩ : ∃ wb, wb = w10.heap.size := ⟨_, rfl⟩
  have B11 : Below w10.heap.size w10 w11 := by rw [hw11]; exact below_alloc _ _
  have hwbw : ub < wb := by have := (Array.getElem?_eq_some_iff.1 U10).1; omega
  have cP11 := cell_keep cP10 B11
  have R11 := box_below R10 B11
  have U11 := box_below U10 B11
  have W11 : w11.cell? ⟨wb, 0, none⟩ = some (.slice wa ws.length wc) := by rw [hw11, hwb]; exact box_cell (heap_alloc_new w10 _) rfl
  have GG11 := GG10.trans (grown_below B11 (some g))
  have b11 := b10.below B11
  have OI11 := own_below OI10 B11
  have OK11 := own_below OK10 B11
  have OL11 := own_below OL10 B11
  have hnb : ∀ x, wa = some x → x.block ≠ g := fun x hx e => by
    have := own_first OW10 hx
    omega
  have C11 := manyT_any g N w.heap.size wb ws wa wc s6 w11 b11 (by have := B11.size; omega) cP11 hPg W11 (by omega) (Gl.owned (own_below OW10 B11)) hnb hwl _ (unhide H7)
  have HW11 := hide hw11
  have HWB := hide hwb
  have sz11 := B11.size
  have ltP : w.heap.size < w10.heap.size := by omega
  clear hw11 hwb R10 U10 GG10 b10 B11 OI10 OK10 OL10 OW10 b11 hnb C9 ux8 uf8 U8 R8 cP8
  go_wp2_with fail
  rw [← unhide HW11, ← unhide HWB]
  refine C11.mono ?_
  rintro e w12 ⟨v12, rfl, OT12, b12, G12⟩
  clear cP10 ltP
  try simp only at OT12 b12
  have OT12 := OT12.mono (show w.heap.size ≤ w11.heap.size by omega)
  obtain ⟨ta, tc, hv12, -⟩ := id OT12.ts.open
  subst hv12
  have cP12 := G12.cell cP11 (by simpa using hPg)
  have R12 := box_grown R11 G12 (by simp; omega)
  have GG12 := GG11.trans G12
  have sz12 : w.heap.size ≤ w12.heap.size := GG12.size
  have sy12 := G12.size
  have U12 := box_grown U11 G12 (by simp; omega)
  have OI12 := own_far OI11 G12 hgw
  have OK12 := own_far OK11 G12 hgw
  have OL12 := own_far OL11 G12 hgw
  clear cP11 R11 GG11 G12 U11 OI11 OK11 OL11
  have ot13 : ∀ u : Value, TmO w.heap.size (w12.setCell ⟨ub, 3, none⟩ u) (.slice ta ts.length tc) ts := fun u => OT12.box U12 (by decide) (by decide) (by decide) 3 u
  obtain ⟨w13, hw13⟩ : ∃ w13, w13 = w12.setCell ⟨ub, 3, none⟩ (.slice ta ts.length tc) := ⟨_, rfl⟩
  have ux12 := box_cell U12 (j := 3) rfl
  have uf12 := bfro U12 3
  have cP13 : w13.cell? ⟨w.heap.size, 0, none⟩ = some (.pointer (some ⟨g, 0, none⟩)) := by rw [hw13]; exact (grown_set _ ⟨ub, 3, none⟩ _).cell cP12 (by simp; omega)
  have R13 : w13.heap[w.heap.size + 1]? = some (.cells #[.slice none 0 0, .slice none 0 0, .slice none 0 0, .slice none 0 0, .bool false] 29 (0, 0)) := by rw [hw13]; exact bfar R12 (by show w.heap.size + 1 ≠ ub; omega) _
  have U13 : w13.heap[ub]? = some (.cells #[.slice ia ids.length ic, .slice ka keys.length kc, .slice la lens.length lc, .slice ta ts.length tc, .bool so] 29 (0, 0)) := by rw [hw13]; exact bset U12 3 _
  have GG13 : w.grownBy w13 (some g) := by rw [hw13]; exact grown_own GG12 (grown_set _ ⟨ub, 3, none⟩ _) (fun k hk => by simp at hk; omega)
  have b13 : Sb g N w13 s7 := by rw [hw13]; exact b12.grown (grown_set _ ⟨ub, 3, none⟩ _) (by simp; omega) (fun k hk => by simp at hk; omega)
  have sy13 : ub < w13.heap.size := (Array.getElem?_eq_some_iff.1 U13).1
  have sz13 : w.heap.size ≤ w13.heap.size := GG13.size
  have OI13 : w13.ownsRow w.heap.size 9 1 (.slice ia ids.length ic) ids.length (ids.map Value.string) := by rw [hw13]; exact own_box OI12 U12 (by decide) 3 _
  have OK13 : w13.ownsRow w.heap.size 3 1 (.slice ka keys.length kc) keys.length (keys.map (Value.int .i64)) := by rw [hw13]; exact own_box OK12 U12 (by decide) 3 _
  have OL13 : w13.ownsRow w.heap.size 3 1 (.slice la lens.length lc) lens.length (lens.map (Value.int .i64)) := by rw [hw13]; exact own_box OL12 U12 (by decide) 3 _
  have HW13 := hide hw13
  clear hw13 GG12 b12 OI12 OK12 OL12
  have OT13 : TmO w.heap.size w13 (.slice ta ts.length tc) ts := by rw [unhide HW13]; exact ot13 _
  have s0' := box_cell U12 (j := 0) rfl
  have s1' := box_cell U12 (j := 1) rfl
  have s2' := box_cell U12 (j := 2) rfl
  have s3' := box_cell U12 (j := 3) rfl
  have s4' := box_cell U12 (j := 4) rfl
  have x0 := box_cell R12 (j := 0) rfl
  have x1 := box_cell R12 (j := 1) rfl
  have x2 := box_cell R12 (j := 2) rfl
  have x3 := box_cell R12 (j := 3) rfl
  have x4 := box_cell R12 (j := 4) rfl
  have f0 := bfro R12 0
  have f1 := bfro R12 1
  have f2 := bfro R12 2
  have f3 := bfro R12 3
  have f4 := bfro R12 4
  have neR : w.heap.size + 1 ≠ ub := by omega
  have neR' : ub ≠ w.heap.size + 1 := by omega
  have HEND := hide (seg_end9 (so := so) OI13 OK13 OL13 OT13 R13 b13 GG13 (by omega) hNw hgw)
  clear OI13 OK13 OL13 OT13 ot13 b13 GG13 OT12 C11 U13 R13 cP13
  go_wp2
  have e9 := unhide HEND
  rw [unhide HW13] at e9
  have e := unhide HE
  rw [e.1, e.2.1, e.2.2]
  exact bodyPost_ret (v := .agg #[.slice ia ids.length ic, .slice ka keys.length kc, .slice la lens.length lc, .slice ta ts.length tc, .bool so]) (by simp [results, Tryz.results28, go_sem, x0, x1, x2, x3, x4]) rfl ⟨_, _, _, _, rfl, e9⟩
end Go.Proofs.YtonhehhmnobciaaGreat
