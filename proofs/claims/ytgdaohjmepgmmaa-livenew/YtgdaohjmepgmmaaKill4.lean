/-
  The contracts of Kill, the program's and the document's.
-/
import Derived.Test.YtgdaohjmepgmmaaSmall4
namespace Go.Proofs.Ytgdaohjmepgmmaa
open Go.RowKit

theorem Try.info4 : (Try.prog.info? 4).map (fun i => (i.zero, i.size, i.bytes)) = some (some (.bool false), 1, 1) := by kernel_rfl

theorem lives_neg {l : List Bool} {i : Int} (h : i < 0) : L.lives l i = false ∧ L.kill l i = l := by
  have : L.lives l i = false := by unfold L.lives; simp; omega
  exact ⟨this, by unfold L.kill; rw [this]; simp⟩
theorem lives_out {l : List Bool} {i : Int} (h : (l.length : Int) ≤ i) : L.lives l i = false ∧ L.kill l i = l := by
  have : L.lives l i = false := by unfold L.lives; simp; omega
  exact ⟨this, by unfold L.kill; rw [this]; simp⟩
theorem lives_dead {l : List Bool} {p : Nat} (h : l[p]? = some false) : L.lives l (p : Int) = false ∧ L.kill l (p : Int) = l := by
  have : L.lives l (p : Int) = false := by unfold L.lives; simp [List.getD, h]
  exact ⟨this, by unfold L.kill; rw [this]; simp⟩
theorem lives_yes {l : List Bool} {p : Nat} (h : l[p]? = some true) : L.lives l (p : Int) = true ∧ L.kill l (p : Int) = l.set p false := by
  have hp := (List.getElem?_eq_some_iff.1 h).1
  have : L.lives l (p : Int) = true := by unfold L.lives; simp [List.getD, h]; omega
  exact ⟨this, by unfold L.kill; rw [this]; simp⟩

/-- What Kill ends in. -/
def KillEnd (w : World) (l : List Bool) (i : Int) (e : Ending) (w' : World) : Prop :=
  ∃ v', e = .returned (.tuple #[v', .bool (L.lives l i)]) ∧ w'.ownsRow w.heap.size 4 1 v' (L.kill l i).length ((L.kill l i).map Value.bool) ∧ Below w.heap.size w w'

theorem kill_end {w w' : World} {l m : List Bool} {i : Int} {v' : Value} {r : Bool} (h : L.lives l i = r ∧ L.kill l i = m) (ho : w'.ownsRow w.heap.size 4 1 v' m.length (m.map Value.bool)) (hb : Below w.heap.size w w') : KillEnd w l i (.returned (.tuple #[v', .bool r])) w' := by
  obtain ⟨rfl, rfl⟩ := h
  exact ⟨v', rfl, ho, hb⟩

set_option maxHeartbeats 1000000 in
theorem kill_any (v : Value) (l : List Bool) (i : Int) (w : World) (h : Gl .bool w v l) (hll : l.length ≤ 4294967296) :
    Calls Try.prog 12 #[v, .int .i64 i] w (KillEnd w l i) := by
  obtain ⟨i0, hi, hz0, hz1, hz2⟩ := info_parts Try.info4
  have hs := h
  obtain ⟨a, cap, rfl, hl, hm, hna, ho⟩ := h.open
  clear h ho
  by_cases h0 : i < 0
  · go_enter Try.func12, Try.ntmps12
    go_wp2_with (at_builtin; refine append_allG (f := Value.bool) rfl _ _ 22 rfl Try.underlying22 hi hz0 hz1 hz2 rfl (fun _ => rfl) (pre := []) rfl rfl hs (World.ownsRow_nil _ _ _ _) (Below.refl _ _) (Nat.le_refl _) (by simp; omega) (by decide) ?_; intro v1 w1 hown hbel; rw [List.nil_append] at hown; obtain ⟨a1, c1, rfl, -⟩ := id (Gl.owned hown))
    go_ret2
    exact kill_end (lives_neg h0) hown hbel
  · by_cases h1 : (l.length : Int) ≤ i
    · go_enter Try.func12, Try.ntmps12
      go_wp2_with (at_builtin; refine append_allG (f := Value.bool) rfl _ _ 22 rfl Try.underlying22 hi hz0 hz1 hz2 rfl (fun _ => rfl) (pre := []) rfl rfl hs (World.ownsRow_nil _ _ _ _) (Below.refl _ _) (Nat.le_refl _) (by simp; omega) (by decide) ?_; intro v1 w1 hown hbel; rw [List.nil_append] at hown; obtain ⟨a1, c1, rfl, -⟩ := id (Gl.owned hown))
      go_ret2
      exact kill_end (lives_out h1) hown hbel
    · obtain ⟨p, rfl⟩ := Int.eq_ofNat_of_zero_le (show 0 ≤ i by omega)
      have hp : p < l.length := by omega
      obtain ⟨x, hx⟩ : ∃ x, l[p]? = some x := ⟨l[p], List.getElem?_eq_getElem hp⟩
      have HX := hide hx
      clear hx h0 h1
      cases x with
      | false =>
        go_enter Try.func12, Try.ntmps12
        go_wp2_with (at_builtin; refine append_allG (f := Value.bool) rfl _ _ 22 rfl Try.underlying22 hi hz0 hz1 hz2 rfl (fun _ => rfl) (pre := []) rfl rfl hs (World.ownsRow_nil _ _ _ _) (Below.refl _ _) (Nat.le_refl _) (by simp; omega) (by decide) ?_; intro v1 w1 hown hbel; rw [List.nil_append] at hown; obtain ⟨g, c1, rfl, hg1, hg2⟩ := hown.form (by omega); have k1 := own_at hown rfl (unhide HX))
        go_ret2
        exact kill_end (lives_dead (unhide HX)) hown hbel
      | true =>
        go_enter Try.func12, Try.ntmps12
        go_wp2_with (at_builtin; refine append_allG (f := Value.bool) rfl _ _ 22 rfl Try.underlying22 hi hz0 hz1 hz2 rfl (fun _ => rfl) (pre := []) rfl rfl hs (World.ownsRow_nil _ _ _ _) (Below.refl _ _) (Nat.le_refl _) (by simp; omega) (by decide) ?_; intro v1 w1 hown hbel; rw [List.nil_append] at hown; obtain ⟨g, c1, rfl, hg1, hg2⟩ := hown.form (by omega); have k1 := own_at hown rfl (unhide HX); have k2 := hown.frozenAt p)
        go_ret2
        exact kill_end (lives_yes (unhide HX)) (own_put hown rfl p false) (hbel.setCell hg1 _)

set_option maxHeartbeats 1000000 in
theorem rkill_any (v : Value) (l : List Bool) (i : Int) (w : World) (h : Gl .bool w v l) (hll : l.length ≤ 4294967296) :
    Calls Try.prog 13 #[v, .int .i64 i] w fun e w' => ∃ v', e = .returned (.tuple #[v', .bool (L.lives l i)]) ∧ Gl .bool w' v' (L.kill l i) ∧ Below w.heap.size w w' := by
  obtain ⟨i0, hi, hz0, hz1, hz2⟩ := info_parts Try.info4
  have hs := h
  obtain ⟨a, cap, rfl, hl, hm, hna, ho⟩ := h.open
  clear h
  by_cases h0 : i < 0
  · clear ho
    go_enter Try.func13, Try.ntmps13
    go_wp2
    go_ret2
    exact ⟨_, by rw [(lives_neg h0).1]; rfl, by rw [(lives_neg h0).2]; exact hs, Below.refl _ _⟩
  · by_cases h1 : (l.length : Int) ≤ i
    · clear ho
      go_enter Try.func13, Try.ntmps13
      go_wp2
      go_ret2
      exact ⟨_, by rw [(lives_out h1).1]; rfl, by rw [(lives_out h1).2]; exact hs, Below.refl _ _⟩
    · obtain ⟨p, rfl⟩ := Int.eq_ofNat_of_zero_le (show 0 ≤ i by omega)
      have hp : p < l.length := by omega
      obtain ⟨x, hx⟩ : ∃ x, l[p]? = some x := ⟨l[p], List.getElem?_eq_getElem hp⟩
      obtain ⟨b, off, rfl, hb, hc⟩ := ho (by omega)
      have c1 := hc p x hx
      have HX := hide hx
      clear hx h0 h1 ho hc
      cases x with
      | false =>
        go_enter Try.func13, Try.ntmps13
        go_wp2
        go_ret2
        exact ⟨_, by rw [(lives_dead (unhide HX)).1]; rfl, by rw [(lives_dead (unhide HX)).2]; exact hs, Below.refl _ _⟩
      | true =>
        go_enter Try.func13, Try.ntmps13
        go_wp2_with (at_builtin; refine append_allG (f := Value.bool) rfl _ _ 22 rfl Try.underlying22 hi hz0 hz1 hz2 rfl (fun _ => rfl) (pre := []) rfl rfl hs (World.ownsRow_nil _ _ _ _) (Below.refl _ _) (Nat.le_refl _) (by simp; omega) (by decide) ?_; intro v1 w1 hown hbel; rw [List.nil_append] at hown; obtain ⟨g, c1, rfl, hg1, hg2⟩ := hown.form (by omega); have k1 := own_at hown rfl (unhide HX); have k2 := hown.frozenAt p)
        go_ret2
        exact ⟨_, by rw [(lives_yes (unhide HX)).1]; rfl, by rw [(lives_yes (unhide HX)).2]; exact Gl.owned (own_put hown rfl p false), hbel.setCell hg1 _⟩
end Go.Proofs.Ytgdaohjmepgmmaa
