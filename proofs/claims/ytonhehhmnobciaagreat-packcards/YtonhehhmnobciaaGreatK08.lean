/-
  Texts put together: RefGet, RefRise, RSmall6, RFind6, Search6.
-/
import Derived.Test.YtonhehhmnobciaaGreatK06
import Derived.Test.YtonhehhmnobciaaGreatK01
import Derived.Deep.RegionWith
import Derived.Deep.DeepMust
import Derived.Test.YtonhehhmnobciaaGreatK05
import Derived.Lib.SliceRun
/-
  The contract of the document's Get: it answers what the program's does.
-/
namespace Go.Proofs.YtonhehhmnobciaaGreat
set_option maxRecDepth 100000
open Go.RowKit

/-- Few bytes for a small number. -/
theorem putF_short : ∀ (k f : Nat) (n : Int), n < 128 ^ (k + 1) → (V.putF f n).length ≤ k + 1
  | _, 0, _, _ => by simp [V.putF]
  | 0, f + 1, n, h => by
    have : (128 : Int) ^ (0 + 1) = 128 := rfl
    rw [V.putF, if_neg (by omega)]
    simp
  | k + 1, f + 1, n, h => by
    have e : (128 : Int) ^ (k + 1 + 1) = 128 ^ (k + 1) * 128 := rfl
    rw [e] at h
    rw [V.putF]
    split
    · have := putF_short k f (n / 128) (by omega)
      simp
      omega
    · simp

theorem put_short {i : Nat} {n : Int} (hi : i < 5) (h0 : 0 < i) (h : n < V.pw i) : (V.put n).length ≤ i := by
  obtain ⟨k, rfl⟩ : ∃ k, i = k + 1 := ⟨i - 1, by omega⟩
  refine putF_short k 4 n ?_
  match k, hi with
  | 0, _ => exact h
  | 1, _ => exact h
  | 2, _ => exact h
  | 3, _ => exact h

theorem pw_mul {i : Nat} (hi : i < 5) : V.pw i * 128 = V.pw (i + 1) := by
  match i, hi with
  | 0, _ => rfl
  | 1, _ => rfl
  | 2, _ => rfl
  | 3, _ => rfl
  | 4, _ => rfl

theorem pw_bd (i : Nat) : 1 ≤ V.pw i ∧ V.pw i ≤ 34359738368 := by
  match i with
  | 0 => decide
  | 1 => decide
  | 2 => decide
  | 3 => decide
  | 4 => decide
  | _ + 5 => exact ⟨by simp [V.pw], by simp [V.pw]⟩

theorem pw_dig {i : Nat} {d : Int} (hi : i < 5) (h0 : 0 ≤ d) (h1 : d ≤ 127) : 0 ≤ V.pw i * d ∧ V.pw i * d ≤ 34359738368 := by
  match i, hi with
  | 0, _ => simp only [V.pw]; omega
  | 1, _ => simp only [V.pw]; omega
  | 2, _ => simp only [V.pw]; omega
  | 3, _ => simp only [V.pw]; omega
  | 4, _ => simp only [V.pw]; omega

end Go.Proofs.YtonhehhmnobciaaGreat

/-
  The contracts of the document's test for rising lists, and of its Rise: they answer what the program's do.
-/
namespace Go.Proofs.YtonhehhmnobciaaGreat
set_option maxRecDepth 100000
open Go.RowKit

/-- The least that the number at place k may be: one above the one ahead. -/
def least (l : List Int) (k : Nat) : Int := if k = 0 then 0 else l.getD (k - 1) 0 + 1
theorem least_zero (l : List Int) : least l 0 = 0 := rfl
theorem least_succ (l : List Int) {k : Nat} {x : Int} (h : k < l.length) (hx : x = l[k]) : least l (k + 1) = x + 1 := by
  simp [least, h, hx]

end Go.Proofs.YtonhehhmnobciaaGreat

/-
  The contracts of the document's own rising, May, Find, has and with: they answer as the plain functions do.
-/
namespace Go.Proofs.YtonhehhmnobciaaGreat
set_option maxRecDepth 100000
open Go.RowKit

/-- The least document that the posting at place k may have. -/
def leastD (L : List Pt) (k : Nat) : Int := least (L.map Pt.d) k
theorem leastD_zero (L : List Pt) : leastD L 0 = 0 := rfl
theorem leastD_succ {L : List Pt} {k : Nat} {p : Pt} (h : L[k]? = some p) : leastD L (k + 1) = p.d + 1 := by
  obtain ⟨hk, rfl⟩ := List.getElem?_eq_some_iff.1 h
  simp [leastD, least, hk]

end Go.Proofs.YtonhehhmnobciaaGreat

/-
  The contracts of the document's own Find, has and with: they answer as the plain functions do.
-/
namespace Go.Proofs.YtonhehhmnobciaaGreat
set_option maxRecDepth 100000
open Go.RowKit

theorem Q.rise_lt : ∀ {l : List Int} {m z : Int} {i k : Nat} {x y : Int}, Q.riseB m z l = true → i < k → l[i]? = some x → l[k]? = some y → x < y
  | [], _, _, _, _, _, _, _, _, hx, _ => by simp at hx
  | u :: r, m, z, 0, k + 1, x, y, h, _, hx, hy => by
    obtain ⟨_, h2⟩ := Q.rise_head h
    simp at hx hy
    have := Q.rise_le h2 y (List.mem_of_getElem? hy)
    omega
  | u :: r, m, z, i + 1, k + 1, x, y, h, hik, hx, hy => by
    obtain ⟨_, h2⟩ := Q.rise_head h
    exact Q.rise_lt h2 (i := i) (k := k) (by omega) (by simpa using hx) (by simpa using hy)
  | u :: r, m, z, i, 0, x, y, h, hik, hx, hy => by omega

theorem Q.find_hit {L : List Pt} {d : Int} {k : Nat} {p : Pt} (h : Q.may L = true) (hp : L[k]? = some p) (hd : p.d = d) : Q.find L d = k := by
  have hr := Q.may_rise h
  have hk : (L.map Pt.d)[k]? = some d := by rw [List.getElem?_map, hp]; simp [hd]
  have hf : Q.first L d = k := Q.ahead_is (by have := (List.getElem?_eq_some_iff.1 hp).1; simp; omega) (fun i y hi hy => Q.rise_lt hr hi hy hk) (fun y hy => by rw [hk] at hy; simp at hy; omega)
  rw [Q.find_at h (by rw [Q.hasD_at (p := p) (by rw [hf]; exact hp)]; simpa using hd), hf]

theorem Q.find_miss {L : List Pt} {d : Int} (h : Q.may L = true) (hn : ∀ (i : Nat) (p : Pt), L[i]? = some p → p.d ≠ d) : Q.find L d = -1 := by
  refine Q.find_none ?_
  rw [← Bool.not_eq_true, Q.hasD_mem h]
  rintro ⟨p, hp, e⟩
  obtain ⟨i, hi⟩ := List.mem_iff_getElem?.1 hp
  exact hn i p hi e

end Go.Proofs.YtonhehhmnobciaaGreat

/-
  The contracts of slices.Clone and slices.BinarySearch at numbers.
-/
namespace Go.Proofs.YtonhehhmnobciaaGreat
set_option maxRecDepth 100000
open Go.RowKit

theorem cnanI_any (x : Int) (w : World) : Calls Tryz.prog 85 #[.int .i64 x] w fun e w' => e = .returned (.bool false) ∧ w' = w := by
  have hx : (x != x) = false := by simp
  go_enter Tryz.func85, Tryz.ntmps85
  go_wp2
  go_ret
  exact ⟨rfl, rfl⟩

end Go.Proofs.YtonhehhmnobciaaGreat
