/-
  'out = append(out, xs...)' at postings, whose cells are known as a list.
-/
import Derived.Test.YtjkaidlgooemoaaOwn6
namespace Go.Proofs.Ytjkaidlgooemoaa
open Go.RowKit

/-- The slice value u has, in w, the cells ds of as many postings as M. -/
def Cl (w : World) (u : Value) (ds : List Value) (M : List Pt) : Prop :=
  (∃ cap, u = .slice none 0 cap ∧ M = [] ∧ cap = 0) ∨ ∃ ad cap, u = .slice (some ad) M.length cap ∧ ∀ j y, ds[j]? = some y → w.cell? (ad.add j) = some y

theorem Pl.cl {w : World} {u : Value} {M : List Pt} (h : Pl w u M) : ∃ ds, Cl w u ds M ∧ PC w ds M := by
  obtain ⟨ao, cap, rfl, hl, hm, hn, hc⟩ := h
  cases ao with
  | none =>
    have hcap := hn rfl
    subst hcap
    have hz0 : M = [] := List.eq_nil_of_length_eq_zero (by omega)
    subst hz0
    exact ⟨[], .inl ⟨0, rfl, rfl, rfl⟩, trivial⟩
  | some ad =>
    obtain ⟨ds, hd, hdj⟩ := Pl.cells (w := w) (x := ad) (L := M) 0 fun i f hf => by simpa using hc ad rfl i f hf
    exact ⟨ds, .inr ⟨ad, cap, rfl, fun j y hj => by simpa using hdj j y hj⟩, hd⟩

theorem Cl.below {w w' : World} {u : Value} {ds : List Value} {M : List Pt} (h : Cl w u ds M) (hb : Below w.heap.size w w') : Cl w' u ds M := by
  rcases h with h | ⟨ad, cap, hu, hc⟩
  · exact .inl h
  · refine .inr ⟨ad, cap, hu, fun j y hj => ?_⟩
    have h0 := hc j y hj
    rw [hb.cell (World.block_lt_of_cell? w _ h0)]
    exact h0

theorem Cl.owned {w : World} {B : Nat} {u : Value} {ds : List Value} {M : List Pt} (h : w.ownsRow B 39 2 u M.length ds) : Cl w u ds M := by
  have hcell := fun g hg => h.cells (g := g) hg
  rcases id h.2 with ⟨rfl, h0⟩ | ⟨g, cap, cur, rfl, -⟩
  · exact .inl ⟨0, rfl, List.eq_nil_of_length_eq_zero h0, rfl⟩
  · exact .inr ⟨_, cap, rfl, hcell g rfl⟩

theorem append_posts_c {Q : Value → List Int → Prop} (hq : ∀ v z, Q v z → v.oneCell' = true) {ops : Array Oper} {rest : List Oper} {o : Oper} {a : Act} {Q' : Exit → Act → World → Prop} {wr : World} (hgd : o.guard = none) (s x : Operand)
    (ho : o.op = .call { callee := .builtin .append, args := #[s, x], argTypes := #[22, 22] }) {B : Nat} {pre L : List Pt} {v u : Value} {cs ds : List Value} (hs : a.eval s = v) (hx : a.eval x = u)
    (hu : Cl wr u ds L) (hd : PCp Q ds L) (hc1 : wr.ownsRow B 39 2 v pre.length cs) (hc2 : PCp Q cs pre) (hB : B ≤ wr.heap.size) (hlen : pre.length + L.length ≤ 4294967296)
    (h : ∀ v' w', w'.ownsRow B 39 2 v' (pre ++ L).length (cs ++ ds) → PCp Q (cs ++ ds) (pre ++ L) → wr.grownBy w' v.ownBlock → wpList Try.prog ops Q' rest (a.put o.dst v') w') :
    wpList Try.prog ops Q' (o :: rest) a wr := by
  obtain ⟨i0, hi, hz0, hz1, hz2⟩ := info_parts Try.infoP
  rcases hu with ⟨cap, rfl, rfl, rfl⟩ | ⟨ad, cap, rfl, hc⟩
  · have hds : ds = [] := List.eq_nil_of_length_eq_zero (by have := hd.len; simpa using this)
    subst hds
    refine wpList_append_own_none hgd s x _ ho B 39 i0 2 Try.underlying22 hi v pre.length _ hs hc1 hx ?_
    exact h v wr (by simpa using hc1) (by simpa using hc2) ⟨rfl, rfl, rfl, Nat.le_refl _, fun _ _ _ => rfl⟩
  · refine wpList_append_own _ hgd s x _ ho B 39 i0 _ 2 32 Try.underlying22 hi hz0 hz1 hz2 rfl (by decide) v pre.length _ hs hc1 ad L.length cap ds hx hd.len hc (PCp.ones hq hd) ?_ ?_ hB ?_
    · unfold maxLen; omega
    · omega
    · intro v' w1 hown' hg _
      exact h v' w1 (by simpa using hown') (hc2.append hd) hg

/-- Places that were read at w1, or stand in a row of one's own. -/
def Qd (w1 w : World) (u : Value) (z : List Int) : Prop := Sl .i64 w1 u z ∨ Pa w1.heap.size w u z
theorem Qd.one {w1 w : World} (v : Value) (z : List Int) (h : Qd w1 w v z) : v.oneCell' = true := by
  rcases h with h | h
  · exact h.oneCell
  · exact Pa.one _ _ h
theorem Qd.sl {w1 w : World} {v : Value} {z : List Int} (h : Qd w1 w v z) (b : Below w1.heap.size w1 w) : Sl .i64 w v z := by
  rcases h with h | h
  · exact h.below b
  · exact Pa.sl h
theorem Qd.grown {w1 w w' : World} {v ov : Value} {z : List Int} {B n : Nat} {cs : List Value} (h : Qd w1 w v z) (o : w.ownsRow B 39 2 ov n cs) (g : w.grownBy w' ov.ownBlock) : Qd w1 w' v z := by
  rcases h with h | h
  · exact .inl h
  · exact .inr (World.ownsRow.kept h g (own_apart h o (by decide)))
theorem Qd.below {w1 w w' : World} {v : Value} {z : List Int} (h : Qd w1 w v z) (b : Below w.heap.size w w') : Qd w1 w' v z := by
  rcases h with h | h
  · exact .inl h
  · exact .inr (own_below h b)
end Go.Proofs.Ytjkaidlgooemoaa
