/-
  Contracts of the document's own functions, with their answers named.
-/
import Derived.Test.YtgdaohjmepgmmaaAwake4
import Derived.Test.YtgdaohjmepgmmaaRUnpack4
namespace Go.Proofs.Ytgdaohjmepgmmaa
open Go.RowKit

theorem rkill_b (v : Value) (l : List Bool) (i : Int) (w : World) (h : Gl .bool w v l) (hll : l.length ≤ 4294967296) (r : Bool) (m : List Bool) (hr : L.lives l i = r) (hm : L.kill l i = m) :
    Calls Try.prog 13 #[v, .int .i64 i] w fun e w' => ∃ v', e = .returned (.tuple #[v', .bool r]) ∧ Gl .bool w' v' m ∧ Below w.heap.size w w' := by
  subst hr hm
  exact rkill_any v l i w h hll
theorem rnew_b (n : Int) (w : World) (m : List Bool) (hm : L.new n = m) : Calls Try.prog 18 #[.int .i64 n] w fun e w' => ∃ v', e = .returned v' ∧ Gl .bool w' v' m ∧ Below w.heap.size w w' := by
  subst hm
  exact (rnew_any n w).mono fun e w' ⟨v', h1, h2, h3⟩ => ⟨v', h1, Gl.owned h2, h3⟩
theorem rand_b (va vb : Value) (a b : List Bool) (w : World) (ha : Gl .bool w va a) (hb : Gl .bool w vb b) (hll : a.length ≤ 4294967296) (m : List Bool) (hm : L.both a b = m) : Calls Try.prog 16 #[va, vb] w fun e w' => ∃ v', e = .returned v' ∧ Gl .bool w' v' m ∧ Below w.heap.size w w' := by
  subst hm
  exact (rand_any va vb a b w ha hb hll).mono fun e w' ⟨v', h1, h2, h3⟩ => ⟨v', h1, Gl.owned h2, h3⟩
theorem rless_b (va vb : Value) (a b : List Bool) (w : World) (ha : Gl .bool w va a) (hb : Gl .bool w vb b) (r : Bool) (hr : L.less a b = r) : Calls Try.prog 24 #[va, vb] w fun e w' => e = .returned (.bool r) ∧ Below w.heap.size w w' := by
  subst hr
  exact (rless_any va vb a b w ha hb).mono fun e w' ⟨h1, h2⟩ => ⟨h1, by rw [h2]; exact Below.refl _ _⟩
theorem rmay_b (v : Value) (l : List Bool) (w : World) (h : Gl .bool w v l) (r : Bool) (hr : decide (l.length ≤ 64) = r) : Calls Try.prog 20 #[v] w fun e w' => e = .returned (.bool r) ∧ Below w.heap.size w w' :=
  (rmay_any v l w h r hr).mono fun e w' ⟨h1, h2⟩ => ⟨h1, by rw [h2]; exact Below.refl _ _⟩
theorem rcount_b (v : Value) (l : List Bool) (w : World) (h : Gl .bool w v l) (n : Int) (hn : (L.count l : Int) = n) : Calls Try.prog 22 #[v] w fun e w' => e = .returned (.int .i64 n) ∧ Below w.heap.size w w' := by
  subst hn
  exact (rcount_any v l w h).mono fun e w' ⟨h1, h2⟩ => ⟨h1, by rw [h2]; exact Below.refl _ _⟩
theorem rpack_b (v : Value) (l : List Bool) (w : World) (h : Gl .bool w v l) (x : List Int) (hx : L.pack l = x) : Calls Try.prog 29 #[v] w fun e w' => ∃ v', e = .returned v' ∧ Sl .u8 w' v' x ∧ Below w.heap.size w w' := by
  subst hx
  exact (rpack_any v l w h).mono fun e w' ⟨v', h1, h2, h3⟩ => ⟨v', h1, Sl.owned h2, h3⟩
theorem runpack_b (v : Value) (b : List Int) (w : World) (h : Sl .u8 w v b) (hb : V.Byt b) (hll : b.length ≤ 4294967296) (x : List Bool) (n : Int) (hx : L.unpack b = (x, n)) : Calls Try.prog 26 #[v] w fun e w' => ∃ v', e = .returned (.tuple #[v', .int .i64 n]) ∧ Gl .bool w' v' x ∧ Below w.heap.size w w' := by
  refine (runpack_any v b w h hb hll).mono fun e w' h => ?_
  rw [hx] at h
  obtain ⟨v', h1, h2, h3⟩ := h
  exact ⟨v', h1, Gl.owned h2, h3⟩
end Go.Proofs.Ytgdaohjmepgmmaa
