/-
  A segment that is being made: its box, and the rows of ids, keys and lengths ('Bx'). No function of the program is named here.
-/
import Derived.Test.YtonhehhmnobciaaPlainT8
namespace Go.Proofs.Ytonhehhmnobciaa
set_option maxRecDepth 100000
open Go.RowKit

theorem bset {w : World} {g : Nat} {cs : Array Value} {T : TypeId} (h : w.heap[g]? = some (.cells cs T (0, 0))) (j : Nat) (u : Value) : (w.setCell ⟨g, j, none⟩ u).heap[g]? = some (.cells (cs.setIfInBounds j u) T (0, 0)) := by
  simp [World.setCell, Array.getElem?_modify, h]
theorem bfro {w : World} {g : Nat} {cs : Array Value} {T : TypeId} (h : w.heap[g]? = some (.cells cs T (0, 0))) (j : Nat) : w.frozen? ⟨g, j, none⟩ = false := by simp [World.frozen?, h]
theorem bfar {w : World} {g : Nat} {o : Obj} (h : w.heap[g]? = some o) {p : Addr} (hp : g ≠ p.block) (u : Value) : (w.setCell p u).heap[g]? = some o := by rw [Below.heap_setCell w p u g hp]; exact h

def Bx (S : Nat) (w : World) (iv kv lv tv : Value) (so : Bool) (ids : List ByteArray) (keys lens : List Int) : Prop :=
  w.heap[S]? = some (.cells #[iv, kv, lv, tv, .bool so] 31 (0, 0)) ∧ w.ownsRow (S + 1) 9 1 iv ids.length (ids.map Value.string) ∧ w.ownsRow (S + 1) 3 1 kv keys.length (keys.map (Value.int .i64)) ∧ w.ownsRow (S + 1) 3 1 lv lens.length (lens.map (Value.int .i64)) ∧ Far kv lv

theorem Bx.below {S : Nat} {w w' : World} {iv kv lv tv : Value} {so : Bool} {ids : List ByteArray} {keys lens : List Int} (h : Bx S w iv kv lv tv so ids keys lens) (hb : Below w.heap.size w w') : Bx S w' iv kv lv tv so ids keys lens :=
  ⟨box_below h.1 hb, own_below h.2.1 hb, own_below h.2.2.1 hb, own_below h.2.2.2.1 hb, h.2.2.2.2⟩

theorem Far.symm {v x : Value} (h : Far v x) : Far x v := fun k hk e => h k e hk

theorem row_ne {w : World} {S : Nat} {e : TypeId} {k n : Nat} {v : Value} {xs : List Value} (h : w.ownsRow (S + 1) e k v n xs) : some S ≠ v.ownBlock := fun e => by have := (h.lt S e.symm).1; omega
theorem row_set {w : World} {S : Nat} {e : TypeId} {k n : Nat} {v : Value} {xs : List Value} (h : w.ownsRow (S + 1) e k v n xs) (j : Nat) (u : Value) : (w.setCell ⟨S, j, none⟩ u).ownsRow (S + 1) e k v n xs :=
  own_set h (fun b hb e => by have := (h.lt b hb).1; simp only at e; omega) u

theorem Bx.ids {S g n cap : Nat} {wr w1 : World} {iv kv lv tv : Value} {so : Bool} {ids : List ByteArray} {keys lens : List Int} {x : ByteArray} (h : Bx S wr iv kv lv tv so ids keys lens)
    (ho : w1.ownsRow (S + 1) 9 1 (.slice (some ⟨g, 0, none⟩) n cap) (ids ++ [x]).length ((ids ++ [x]).map Value.string)) (hg : wr.grownBy w1 iv.ownBlock) :
    Bx S (w1.setCell ⟨S, 0, none⟩ (.slice (some ⟨g, 0, none⟩) n cap)) (.slice (some ⟨g, 0, none⟩) n cap) kv lv tv so (ids ++ [x]) keys lens :=
  ⟨bset (box_grown h.1 hg (row_ne h.2.1)) 0 _, row_set ho 0 _, row_set (h.2.2.1.kept hg (own_apart h.2.2.1 h.2.1 (by decide))) 0 _, row_set (h.2.2.2.1.kept hg (own_apart h.2.2.2.1 h.2.1 (by decide))) 0 _, h.2.2.2.2⟩

theorem Bx.keys {S g n cap : Nat} {wr w1 : World} {iv kv lv tv : Value} {so : Bool} {ids : List ByteArray} {keys lens : List Int} {x : Int} (h : Bx S wr iv kv lv tv so ids keys lens)
    (ho : w1.ownsRow (S + 1) 3 1 (.slice (some ⟨g, 0, none⟩) n cap) (keys ++ [x]).length ((keys ++ [x]).map (Value.int .i64))) (hg : wr.grownBy w1 kv.ownBlock) (hl : kv.ownBlock = some g ∨ wr.heap.size ≤ g) :
    Bx S (w1.setCell ⟨S, 1, none⟩ (.slice (some ⟨g, 0, none⟩) n cap)) iv (.slice (some ⟨g, 0, none⟩) n cap) lv tv so ids (keys ++ [x]) lens := by
  refine ⟨bset (box_grown h.1 hg (row_ne h.2.2.1)) 1 _, row_set (h.2.1.kept hg (own_apart h.2.1 h.2.2.1 (by decide))) 1 _, row_set ho 1 _, row_set (h.2.2.2.2.kept h.2.2.2.1 hg) 1 _, fun b hb e => ?_⟩
  simp [Value.ownBlock] at hb
  subst hb
  rcases hl with hl | hl
  · exact h.2.2.2.2 _ hl e
  · have := (h.2.2.2.1.lt _ e).2
    omega

theorem Bx.lens {S g n cap : Nat} {wr w1 : World} {iv kv lv tv : Value} {so : Bool} {ids : List ByteArray} {keys lens : List Int} {x : Int} (h : Bx S wr iv kv lv tv so ids keys lens)
    (ho : w1.ownsRow (S + 1) 3 1 (.slice (some ⟨g, 0, none⟩) n cap) (lens ++ [x]).length ((lens ++ [x]).map (Value.int .i64))) (hg : wr.grownBy w1 lv.ownBlock) (hl : lv.ownBlock = some g ∨ wr.heap.size ≤ g) :
    Bx S (w1.setCell ⟨S, 2, none⟩ (.slice (some ⟨g, 0, none⟩) n cap)) iv kv (.slice (some ⟨g, 0, none⟩) n cap) tv so ids keys (lens ++ [x]) := by
  refine ⟨bset (box_grown h.1 hg (row_ne h.2.2.2.1)) 2 _, row_set (h.2.1.kept hg (own_apart h.2.1 h.2.2.2.1 (by decide))) 2 _, row_set (h.2.2.2.2.symm.kept h.2.2.1 hg) 2 _, row_set ho 2 _, fun b hb e => ?_⟩
  simp [Value.ownBlock] at e
  subst e
  rcases hl with hl | hl
  · exact h.2.2.2.2 _ hb hl
  · have := (h.2.2.1.lt _ hb).2
    omega

/-- What stays behind an append to one of the rows and a store into the box. -/
theorem Bx.grow {S : Nat} {w0 wr w1 : World} {e : TypeId} {n j : Nat} {v u : Value} {xs : List Value} (ho : wr.ownsRow (S + 1) e 1 v n xs) (hb : Below S w0 wr) (hS : S ≤ wr.heap.size) (hg : wr.grownBy w1 v.ownBlock) : Below S w0 (w1.setCell ⟨S, j, none⟩ u) :=
  (hb.grown hg hS (fun k hk => by have := (ho.lt k hk).1; omega)).setCell (Nat.le_refl _) _
theorem card_grow {S b : Nat} {wr w1 : World} {cs : Array Value} {e : TypeId} {n j : Nat} {v u : Value} {xs : List Value} (hc : wr.heap[b]? = some (.cells cs 25 (0, 0))) (ho : wr.ownsRow (S + 1) e 1 v n xs) (he : 25 ≠ e) (hg : wr.grownBy w1 v.ownBlock) (hb : b ≠ S) : (w1.setCell ⟨S, j, none⟩ u).heap[b]? = some (.cells cs 25 (0, 0)) :=
  bfar (box_grown hc hg (own_ne_box ho hc he)) hb _
end Go.Proofs.Ytonhehhmnobciaa
