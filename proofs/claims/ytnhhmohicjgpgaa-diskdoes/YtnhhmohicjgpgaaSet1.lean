/-
  The document's own without, and where its row lies; what a store into another block leaves.
-/
import Derived.Test.YtnhhmohicjgpgaaRWith
import Derived.Test.YtnhhmohicjgpgaaOwn
namespace Go.Proofs.Ytnhhmohicjgpgaa
open Go.RowKit

set_option maxHeartbeats 2000000 in
theorem rwithout_o (v : Value) (L : List Pf) (s : ByteArray) (w : World) (h : Fl w v L) (hf : Fits L) :
    Calls Try.prog 44 #[v, .string s] w fun e w' => ∃ v', e = .returned v' ∧ FO w.heap.size w w' v' (K.without L s) ∧ Below w.heap.size w w' := by
  obtain ⟨a, cap, rfl, hl, hm, hna, ho⟩ := h.open
  clear h
  have hL := hf.1
  go_enter Try.func44, Try.ntmps44
  go_wp2
  go_loopw [5, 6] (fun v i wr => ∃ k : Nat, k ≤ L.length ∧ i = .int .i64 k ∧ FO w.heap.size w wr v (K.without (L.take k) s) ∧ Below w.heap.size w wr) (fun _ i _ => L.length - (intOf i).toNat)
  case atStart => exact ⟨0, Nat.zero_le _, rfl, FO.nil _ _ _, Below.refl _ _⟩
  case round =>
    obtain ⟨k, hk, rfl, hown, hbel⟩ := hrel
    by_cases hlt : k < L.length
    · obtain ⟨f, hfk⟩ : ∃ f, L[k]? = some f := ⟨L[k], List.getElem?_eq_getElem hlt⟩
      obtain ⟨b, off, rfl, hb, hc⟩ := ho (by omega)
      obtain ⟨da, dc, c0, c1, c2, c3⟩ := hc k f hfk
      have d0 := (hbel.cell (p := ⟨b, off + k * 3, none⟩) hb).trans c0
      have d1 := (hbel.cell (p := ⟨b, off + k * 3 + 1, none⟩) hb).trans c1
      have d2 := (hbel.cell (p := ⟨b, off + k * 3 + 2, none⟩) hb).trans c2
      have hbs := hbel.size
      have hq := @K.eq_to f.nm s
      have hpl : (K.without (L.take k) s).length ≤ 4294967296 := by have := K.without_len (L.take k) s; simp at this; omega
      clear hc ho c0 c1 c2
      by_cases he : f.nm = s
      · have hq' : (f.nm.toList == s.toList) = true := by rw [hq]; simpa using he
        have HE := hide (K.without_same hfk he)
        clear hq he hfk
        go_wp2
        go_roundw
        case rel => exact ⟨k + 1, by omega, by go_num, by rw [unhide HE]; exact hown, hbel⟩
        case measure => simp [intOf]; omega
      · have hq' : (f.nm.toList == s.toList) = false := by rw [hq]; simpa using he
        have HE := hide (K.without_other hfk he)
        clear hq he hfk
        go_wp2_with (at_builtin; refine append_file (f := f) rfl _ _ rfl rfl rfl rfl hown c3 hbel hbs hpl ?_; intro v1 w1 hown2 hbel2 _)
        go_roundw
        case rel => exact ⟨k + 1, by omega, by go_num, by rw [unhide HE]; exact hown2, hbel2⟩
        case measure => simp [intOf]; omega
    · go_wp2
      go_ret
      rw [List.take_of_length_le (by omega)] at hown
      exact ⟨_, rfl, hown, hbel⟩

theorem Sl.set1 {w : World} {v : Value} {zs : List Int} (h : Sl .u8 w v zs) {p : Addr} {x : Value} (hx : w.cell? p = some x) (hn : ∀ n, x ≠ .int .u8 n) (u : Value) : Sl .u8 (w.setCell p u) v zs := by
  obtain ⟨a', cap, hv, hl, hm, hn', hc⟩ := h
  refine ⟨a', cap, hv, hl, hm, hn', fun y hy i hi => ?_⟩
  have hh := hc y hy i hi
  rw [World.cell?_setCell_other]
  · exact hh
  · intro e
    rw [← e, hx] at hh
    exact hn _ (Option.some.inj hh)

theorem FO.set1 {B : Nat} {w0 w : World} {v : Value} {L : List Pf} (h : FO B w0 w v L) (hb : Below w0.heap.size w0 w) {p : Addr} (hp : p.block < B) {x : Value} (hx : w.cell? p = some x) (hn : ∀ n, x ≠ .int .u8 n) (u : Value) : Fl (w.setCell p u) v L := by
  obtain ⟨cs, h1, h2⟩ := h
  exact FO.fl (B := B) (w0 := w.setCell p u) ⟨cs, own_set h1 (fun k hk => by have := (h1.lt k hk).1; omega) u, h2.turn fun _ _ h => (h.below hb).set1 hx hn u⟩ fun _ _ h => h

theorem cell_set1 {w : World} {p q : Addr} {x u : Value} (h : w.cell? q = some x) (hne : p.block ≠ q.block) : (w.setCell p u).cell? q = some x := by
  rw [World.cell?_setCell_other]
  · exact h
  · intro e; exact hne (by rw [e])
theorem frozen_set1 {w : World} {p q : Addr} {x : Bool} {u : Value} (h : w.frozen? q = x) (hne : p.block ≠ q.block) : (w.setCell p u).frozen? q = x := by
  rw [World.frozen?_of_block (w := w)]
  · exact h
  · exact Below.heap_setCell w p u q.block (Ne.symm hne)
end Go.Proofs.Ytnhhmohicjgpgaa
