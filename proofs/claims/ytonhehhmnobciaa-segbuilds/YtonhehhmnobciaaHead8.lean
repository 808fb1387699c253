/-
  The contracts of head and wordsOf, and of mayHeads at a segment that may be.
-/
import Derived.Test.YtonhehhmnobciaaLay8
import Derived.Test.YtonhehhmnobciaaBox8
namespace Go.Proofs.Ytonhehhmnobciaa
set_option maxRecDepth 100000
open Go.RowKit

/-- s is the segment of the cards l, which may be. -/
def Valid (s : Sg) (l : List Cd) (so : Bool) : Prop := s = S.seg l ∧ S.Ok l so

abbrev segv (ia ka lna ta : Option Addr) (ic kc lnc tc : Nat) (s : Sg) (so : Bool) : Array Value := #[.slice ia s.ids.length ic, .slice ka s.keys.length kc, .slice lna s.lens.length lnc, .slice ta s.ts.length tc, .bool so]

theorem Sv.shape {w : World} {iv kv lv tv : Value} {s : Sg} (h : Sv w iv kv lv tv s) : ∃ ia ka lna ta ic kc lnc tc, iv = .slice ia s.ids.length ic ∧ kv = .slice ka s.keys.length kc ∧ lv = .slice lna s.lens.length lnc ∧ tv = .slice ta s.ts.length tc := by
  obtain ⟨ia, ic, h1, -⟩ := id h.1
  obtain ⟨ka, kc, h2, -⟩ := id h.2.1
  obtain ⟨lna, lnc, h3, -⟩ := id h.2.2.1
  obtain ⟨ta, tc, h4, -⟩ := h.2.2.2.open
  exact ⟨ia, ka, lna, ta, ic, kc, lnc, tc, h1, h2, h3, h4⟩

theorem set3 {w : World} {a : Addr} {u : Value} {b : Nat} (h : w.cell? a = some u) (hne : a.block ≠ b) (u0 u1 u2 : Value) : (((w.setCell ⟨b, 0, none⟩ u0).setCell ⟨b, 1, none⟩ u1).setCell ⟨b, 2, none⟩ u2).cell? a = some u := by
  have key : ∀ (w : World) (j : Nat) (v : Value), w.cell? a = some u → (w.setCell ⟨b, j, none⟩ v).cell? a = some u := fun w j v h => by
    rw [World.cell?_of_block (Below.heap_setCell w ⟨b, j, none⟩ v a.block hne)]
    exact h
  exact key _ _ _ (key _ _ _ (key _ _ _ h))
theorem set3d {w : World} {a : Addr} {u : Value} {b : Nat} (h : w.cell? a = some u) (hne : a.block ≠ b) (u0 u1 u2 : Value) : (((w.setCell ⟨b, 0, none⟩ u0).setCell ⟨b, 1, none⟩ u1).setCell ⟨b, 2, none⟩ u2).drew.cell? a = some u := set3 h hne u0 u1 u2
theorem set3_below {w w1 : World} {b : Nat} (h : Below w.heap.size w w1) (hb : w.heap.size ≤ b) (u0 u1 u2 : Value) : Below w.heap.size w (((w1.setCell ⟨b, 0, none⟩ u0).setCell ⟨b, 1, none⟩ u1).setCell ⟨b, 2, none⟩ u2) := ((h.setCell hb _).setCell hb _).setCell hb _

set_option maxRecDepth 100000 in
set_option maxHeartbeats 2000000 in
theorem head_any (ia ka lna ta : Option Addr) (ic kc lnc tc : Nat) (s : Sg) (so : Bool) (d : Nat) (dI : Int) (hdI : dI = d) (x : ByteArray) (k : Int) (w : World) (h : Sv w (.slice ia s.ids.length ic) (.slice ka s.keys.length kc) (.slice lna s.lens.length lnc) (.slice ta s.ts.length tc) s) (hx : s.ids[d]? = some x) (hk : s.keys[d]? = some k) :
    Calls Try.prog 102 #[.agg #[.slice ia s.ids.length ic, .slice ka s.keys.length kc, .slice lna s.lens.length lnc, .slice ta s.ts.length tc, .bool so], .int .i64 dI] w fun e w' => e = .returned (.agg #[.string x, .int .i64 k, .slice none 0 0]) ∧ Below w.heap.size w w' := by
  subst hdI
  have hd1 := (List.getElem?_eq_some_iff.1 hx).1
  have hd2 := (List.getElem?_eq_some_iff.1 hk).1
  obtain ⟨a', c', hv', hl1, hm1, -, ho1⟩ := h.1.open
  simp only [Value.slice.injEq, true_and] at hv'
  obtain ⟨rfl, rfl⟩ := hv'
  obtain ⟨b1, o1, rfl, hb1, hc1⟩ := ho1 (by omega)
  have e1 := hc1 d x hx
  obtain ⟨a', c', hv', hl2, hm2, -, ho2⟩ := h.2.1.open
  simp only [Value.slice.injEq, true_and] at hv'
  obtain ⟨rfl, rfl⟩ := hv'
  obtain ⟨b2, o2, rfl, hb2, hc2⟩ := ho2 (by omega)
  have e2 := hc2 d hd2
  rw [show s.keys.getD d 0 = k by simp [List.getD, hk]] at e2
  obtain ⟨W, hW⟩ : ∃ W, W = (w.alloc (.cells #[.slice (some ⟨b1, o1, none⟩) s.ids.length ic, .slice (some ⟨b2, o2, none⟩) s.keys.length kc, .slice lna s.lens.length lnc, .slice ta s.ts.length tc, .bool so] 31)).alloc (.cells #[.string ⟨#[]⟩, .int .i64 0, .slice none 0 0] 25) := ⟨_, rfl⟩
  have BW : Below w.heap.size w W := by rw [hW]; exact below_all (below_alloc _ _) _
  have y0 : W.cell? ⟨w.heap.size, 0, none⟩ = some (.slice (some ⟨b1, o1, none⟩) s.ids.length ic) := by rw [hW]; simp
  have y1 : W.cell? ⟨w.heap.size, 1, none⟩ = some (.slice (some ⟨b2, o2, none⟩) s.keys.length kc) := by rw [hW]; simp
  have r0 : W.cell? ⟨w.heap.size + 1, 0, none⟩ = some (.string ⟨#[]⟩) := by rw [hW]; simp
  have r1 : W.cell? ⟨w.heap.size + 1, 1, none⟩ = some (.int .i64 0) := by rw [hW]; simp
  have r2 : W.cell? ⟨w.heap.size + 1, 2, none⟩ = some (.slice none 0 0) := by rw [hW]; simp
  have n0 : W.frozen? ⟨w.heap.size + 1, 0, none⟩ = false := by rw [hW]; simp
  have n1 : W.frozen? ⟨w.heap.size + 1, 1, none⟩ = false := by rw [hW]; simp
  have n2 : W.frozen? ⟨w.heap.size + 1, 2, none⟩ = false := by rw [hW]; simp
  have E1 := cell_keep e1 BW
  have E2 := cell_keep e2 BW
  have ne1 : b1 ≠ w.heap.size + 1 := by omega
  have ne2 : b2 ≠ w.heap.size + 1 := by omega
  have q1 : ¬ w.heap.size + 1 = b1 := by omega
  have q2 : ¬ w.heap.size + 1 = b2 := by omega
  have p1 : (0 : Int) ≤ (d : Int) := by omega
  have p2 : (d : Int) < (s.ids.length : Int) := by omega
  have p3 : (d : Int) < (s.keys.length : Int) := by omega
  have HW := hide hW
  clear hW hc1 hc2 ho1 ho2 h hx hk e1 e2
  go_enter Try.func102, Try.ntmps102
  go_wp2_with fail
  rw [← unhide HW]
  go_region_held3 (fun w' => w'.cell? ⟨w.heap.size, 0, none⟩ = some (.slice (some ⟨b1, o1, none⟩) s.ids.length ic) ∧ w'.cell? ⟨w.heap.size, 1, none⟩ = some (.slice (some ⟨b2, o2, none⟩) s.keys.length kc) ∧ w'.cell? ⟨b1, o1 + d, none⟩ = some (.string x) ∧ w'.cell? ⟨b2, o2 + d, none⟩ = some (.int .i64 k))
    (first
      | go_keep
      | (go_split_ands; exact ⟨set3d y0 (by simp) _ _ _, set3d y1 (by simp) _ _ _, set3d E1 ne1 _ _ _, set3d E2 ne2 _ _ _⟩))
    (fail)
  go_wp2
  exact bodyPost_ret (v := .agg #[.string x, .int .i64 k, .slice none 0 0]) (by simp [results, Try.results102, go_sem, r0, r1, r2]) rfl ⟨rfl, (set3_below BW (by omega) _ _ _).drew⟩

set_option maxRecDepth 100000 in
set_option maxHeartbeats 2000000 in
theorem wordsOf_any (ia ka lna ta : Option Addr) (ic kc lnc tc : Nat) (s : Sg) (so : Bool) (w : World) (h : Sv w (.slice ia s.ids.length ic) (.slice ka s.keys.length kc) (.slice lna s.lens.length lnc) (.slice ta s.ts.length tc) s) (hl : s.ts.length ≤ 1000) :
    Calls Try.prog 51 #[.agg #[.slice ia s.ids.length ic, .slice ka s.keys.length kc, .slice lna s.lens.length lnc, .slice ta s.ts.length tc, .bool so]] w fun e w' => ∃ v', e = .returned v' ∧ Gl .string w' v' (s.ts.map (·.t)) ∧ Below w.heap.size w w' := by
  obtain ⟨i9, hi9, hz90, hz91, hz92⟩ := info_parts Try.infoS
  have HT := h.2.2.2
  go_enter Try.func51, Try.ntmps51
  go_wp2
  go_loopw [3, 9] (fun ov iv wr => ∃ (k : Nat) (pre : List ByteArray), k ≤ s.ts.length ∧ iv = .int .i64 k ∧ Hid (pre = (s.ts.take k).map (·.t)) ∧ pre.length ≤ k ∧ wr.ownsRow w.heap.size 9 1 ov pre.length (pre.map Value.string) ∧ Below w.heap.size w wr) (fun _ iv _ => s.ts.length - (intOf iv).toNat)
  case atStart => exact ⟨0, [], Nat.zero_le _, rfl, rfl, Nat.zero_le _, World.ownsRow_nil _ _ _ _, below_alloc _ _⟩
  case round =>
    obtain ⟨k, pre, hk, rfl, HP, hpl, hown, hbel⟩ := hrel
    by_cases hlt : k < s.ts.length
    · obtain ⟨a', c', hv', -, -, -, ho⟩ := (HT.below hbel).open
      simp only [Value.slice.injEq, true_and] at hv'
      obtain ⟨rfl, rfl⟩ := hv'
      obtain ⟨b, off, rfl, hb, hc⟩ := ho (by omega)
      obtain ⟨t, hx⟩ : ∃ t, s.ts[k]? = some t := ⟨s.ts[k], List.getElem?_eq_getElem hlt⟩
      obtain ⟨wa, wc, c0, c1, -⟩ := hc k t hx
      have HTS := hide (take_snoc8 hx)
      have O1 := hown.alloc (.cells #[.string t.t, .slice wa t.p.length wc] 66)
      have B1 := hbel.alloc hbel.size (.cells #[.string t.t, .slice wa t.p.length wc] 66)
      have hbs := hbel.size
      clear ho hc hx
      go_wp2_with (at_builtin; refine append_oneL (f := Value.string) rfl _ _ 23 rfl Try.underlying23 hi9 hz90 hz91 hz92 rfl (fun _ => rfl) (pre := pre) t.t rfl rfl (by simp) O1 (by simp; omega) (by omega) (by omega) ?_; intro g5 q5 w5 O5 g5' l5)
      have B5 := B1.grown g5' (by simp; omega) (fun j hj => (O1.lt j hj).1)
      clear g5' l5 O1 B1 hown
      go_roundw
      case rel =>
        refine ⟨k + 1, pre ++ [t.t], by omega, by go_num, ?_, by simp; omega, O5, B5⟩
        show _ = _
        rw [unhide HTS, List.map_append, ← unhide HP]; rfl
      case measure => simp [intOf]; omega
    · have hpre : pre = s.ts.map (·.t) := by rw [unhide HP, List.take_of_length_le (by omega)]
      have G := Gl.owned hown
      rw [hpre] at G
      clear HP
      go_wp2
      go_ret
      exact ⟨_, rfl, G, hbel⟩
end Go.Proofs.Ytonhehhmnobciaa
