/-
  Small steps that every walk over slices of bytes takes: worlds one behind the other, and the contracts of Get and Bytes with the answer named.
-/
import Derived.Test.YtonhehhmnobciaaGet
import Derived.Test.YtonhehhmnobciaaSame
namespace Go.Proofs.Ytonhehhmnobciaa
set_option maxRecDepth 100000
open Go.RowKit

theorem hide {p : Prop} (h : p) : Hid p := h
theorem unhide {p : Prop} (h : Hid p) : p := h

theorem byt_of {l : List Int} (h : l.all (fun c => decide (0 ≤ c ∧ c ≤ 255)) = true) : V.Byt l := fun c hc => by simpa using List.all_eq_true.1 h c hc

theorem below_all {w w1 : World} (h : Below w.heap.size w w1) (o : Obj) : Below w.heap.size w (w1.alloc o) := h.alloc h.size o
theorem below_dr {w w1 : World} (h : Below w.heap.size w w1) (n : Nat) : Below w.heap.size w (w1.drewN n) := ⟨h.os, h.tape, h.output, h.size, h.block⟩

theorem get_b (v : Value) (l : List Int) (x : Int) (w : World) (h : Sl .u8 w v l) (hb : V.Byt l) (r : Int × Int × Int) (hr : V.get l x = r) :
    Calls Try.prog 84 #[v, .int .i64 x] w fun e w' => e = .returned (.tuple #[.int .i64 r.1, .int .i64 r.2.1, .int .i64 r.2.2]) ∧ Below w.heap.size w w' :=
  (get_any v l x w h hb).mono fun e w' ⟨h1, h2⟩ => ⟨by rw [h1, hr], by rw [h2]; exact Below.refl _ _⟩

theorem bytes_b (va vb : Value) (xs ys : List Int) (w : World) (ha : Sl .u8 w va xs) (hb : Sl .u8 w vb ys) (r : Bool) (hr : decide (xs = ys) = r) :
    Calls Try.prog 19 #[va, vb] w fun e w' => e = .returned (.bool r) ∧ Below w.heap.size w w' :=
  (bytes_any va vb xs ys w ha hb).mono fun e w' ⟨h1, n, h2⟩ => ⟨by rw [h1, hr], by rw [h2]; exact below_dr (Below.refl _ _) n⟩


theorem Try.slice_u8 (b off len cap lo m : Nat) (L H : Int) (hL : L = lo) (hH : H = (lo : Int) + m) (h2 : lo + m ≤ cap) (h3 : lo < cap) (w : World) :
    (Instr.slice 39 (.slice (some ⟨b, off, none⟩) len cap) (some (.int .i64 L)) (some (.int .i64 H)) none).run Try.prog w = .ok (.slice (some ⟨b, off + lo, none⟩) m (cap - lo)) w := by
  subst hL hH
  have hne : ¬ cap = lo := by omega
  have hs : ∀ w : World, (sizeOf (Try.prog.elem 39)).run Try.prog w = .ok 1 w := fun w => by kernel_rfl
  rw [run_slice_lh w 39 _ len cap (by kernel_rfl) .i64 .i64 lo ((lo : Int) + m) (by omega) (by omega) (by omega), hs]
  have e1 : ((lo : Int) + (m : Int)).toNat - (lo : Int).toNat = m := by omega
  simp only [Result.andThen, sliced, Int.toNat_natCast, if_neg hne, Option.map_some, Addr.add_lit, Nat.mul_one]
  simp only [Int.toNat_natCast] at e1
  rw [e1]

theorem Try.slice_lo (b off len cap lo : Nat) (L : Int) (hL : L = lo) (h2 : lo ≤ len) (h3 : lo < cap) (w : World) :
    (Instr.slice 39 (.slice (some ⟨b, off, none⟩) len cap) (some (.int .i64 L)) none none).run Try.prog w = .ok (.slice (some ⟨b, off + lo, none⟩) (len - lo) (cap - lo)) w := by
  subst hL
  have hne : ¬ cap = lo := by omega
  have hs : ∀ w : World, (sizeOf (Try.prog.elem 39)).run Try.prog w = .ok 1 w := fun w => by kernel_rfl
  rw [run_slice_l w 39 _ len cap (by kernel_rfl) .i64 lo (by omega) (by omega), hs]
  simp only [Result.andThen, sliced, Int.toNat_natCast, if_neg hne, Option.map_some, Addr.add_lit, Nat.mul_one]
end Go.Proofs.Ytonhehhmnobciaa
