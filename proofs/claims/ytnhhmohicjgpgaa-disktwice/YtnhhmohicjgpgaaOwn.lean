/-
  The contract of own: a disk in new memory.
-/
import Derived.Test.YtnhhmohicjgpgaaReadD
namespace Go.Proofs.Ytnhhmohicjgpgaa
open Go.RowKit

theorem grown_set (w : World) (p : Addr) (u : Value) : w.grownBy (w.setCell p u) (some p.block) :=
  ⟨rfl, rfl, rfl, by have := ((Below.refl 0 w).setCell (p := p) (Nat.zero_le _) u).size; exact this, fun k _ hk => Below.heap_setCell w p u k (fun e => hk (by rw [e]))⟩

theorem own_set {w : World} {B : Nat} {e : TypeId} {size : Nat} {v : Value} {n : Nat} {xs : List Value} (h : w.ownsRow B e size v n xs) {p : Addr} (hp : ∀ k, v.ownBlock = some k → k ≠ p.block) (u : Value) : (w.setCell p u).ownsRow B e size v n xs := by
  refine h.kept (grown_set w p u) ?_
  cases hv : v.ownBlock with
  | none => exact .inl rfl
  | some k => exact .inr fun e => hp k hv (Option.some.inj e)

theorem own_apart {w : World} {B B' : Nat} {e e' : TypeId} {size size' : Nat} {v v' : Value} {n n' : Nat} {xs xs' : List Value} (h : w.ownsRow B e size v n xs) (h' : w.ownsRow B' e' size' v' n' xs') (hne : e ≠ e') : v.ownBlock = none ∨ v.ownBlock ≠ v'.ownBlock := by
  rcases h.2 with ⟨rfl, _⟩ | ⟨g, cap, cur, rfl, _, hg, _⟩
  · exact .inl rfl
  · rcases h'.2 with ⟨rfl, _⟩ | ⟨g', cap', cur', rfl, _, hg', _⟩
    · exact .inr (by simp [Value.ownBlock])
    · refine .inr ?_
      simp only [Value.ownBlock, ne_eq, Option.some.injEq]
      intro e
      subst e
      rw [hg] at hg'
      simp only [Option.some.injEq, Obj.cells.injEq] at hg'
      exact hne hg'.2.1

/-- A row of bytes of the call's own. -/
def Pd (B : Nat) (w : World) (dv : Value) (z : List Int) : Prop := w.ownsRow B 5 1 dv z.length (z.map (Value.int .u8))
theorem Pd.one {B : Nat} {w : World} (v : Value) (z : List Int) (h : Pd B w v z) : v.oneCell' = true := (Sl.owned h).oneCell

theorem own_round {wr w1 : World} {o : Obj} {B : Nat} {e : TypeId} {size : Nat} {v : Value} {n : Nat} {xs : List Value} (h : wr.ownsRow B e size v n xs) (B1 : Below (wr.alloc o).heap.size (wr.alloc o) w1) (j : Nat) (u : Value) :
    (w1.setCell ⟨wr.heap.size, j, none⟩ u).ownsRow B e size v n xs :=
  own_set (own_below (h.alloc o) B1) (fun k hk => by have := (h.lt k hk).2; show k ≠ wr.heap.size; omega) u

theorem own_end {B : Nat} {w : World} {v : Value} {L : List Pf} {cs : List Value} (h : w.ownsRow B 48 3 v L.length cs) (hc : FCp (Pd B w) cs L) {p q : Addr} (hp : p.block < B) (hq : q.block < B) (u1 u2 : Value) : Fl ((w.setCell p u1).setCell q u2) v L := by
  have k1 : ∀ {e : TypeId} {size : Nat} {v : Value} {n : Nat} {xs : List Value}, w.ownsRow B e size v n xs → ((w.setCell p u1).setCell q u2).ownsRow B e size v n xs := fun h =>
    own_set (own_set h (fun k hk => by have := (h.lt k hk).1; omega) u1) (fun k hk => by have := (h.lt k hk).1; omega) u2
  exact FO.fl (w0 := (w.setCell p u1).setCell q u2) ⟨cs, k1 h, hc.turn fun v z h => Sl.owned (k1 h)⟩ fun _ _ h => h

set_option maxHeartbeats 4000000 in
theorem own_any (cap : Int) (v : Value) (L : List Pf) (w : World) (h : Fl w v L) (hf : Fits L) :
    Calls Try.prog 38 #[.agg #[.int .i64 cap, v]] w fun e w' => ∃ v', e = .returned (.agg #[.int .i64 cap, v']) ∧ Fl w' v' L ∧ Below w.heap.size w w' := by
  have hL := hf.1
  obtain ⟨w0, hw0⟩ : ∃ w0, w0 = (w.alloc (.cells #[.int .i64 cap, v] 24)).alloc (.cells #[.int .i64 0, .slice none 0 0] 24) := ⟨_, rfl⟩
  have B0 : Below w.heap.size w w0 := by rw [hw0]; exact (below_alloc _ _).alloc (by simp) _
  have H0 := h.below B0
  obtain ⟨a, sc, rfl, hl, hm, hna, -⟩ := h.open
  clear h
  have z0 : w0.heap.size = w.heap.size + 2 := by rw [hw0]; simp
  have b0 : w0.cell? ⟨w.heap.size, 0, none⟩ = some (.int .i64 cap) := by rw [hw0]; simp
  have b1 : w0.cell? ⟨w.heap.size, 1, none⟩ = some (.slice a L.length sc) := by rw [hw0]; simp
  have y0 : w0.cell? ⟨w.heap.size + 1, 0, none⟩ = some (.int .i64 0) := by rw [hw0]; simp [go_sem]
  have y1 : w0.cell? ⟨w.heap.size + 1, 1, none⟩ = some (.slice none 0 0) := by rw [hw0]; simp [go_sem]
  have n0 : w0.frozen? ⟨w.heap.size + 1, 0, none⟩ = false := by rw [hw0]; simp [go_sem]
  have n1 : w0.frozen? ⟨w.heap.size + 1, 1, none⟩ = false := by rw [hw0]; simp [go_sem]
  go_enter Try.func38, Try.ntmps38
  go_wp2
  rw [← hw0]
  go_loopw [3, 9] (fun v i wr => ∃ (k : Nat) (cs : List Value), k ≤ L.length ∧ i = .int .i64 k ∧ wr.ownsRow (w.heap.size + 2) 48 3 v (L.take k).length cs ∧ FCp (Pd (w.heap.size + 2) wr) cs (L.take k) ∧ Below (w.heap.size + 2) w0 wr) (fun _ i _ => L.length - (intOf i).toNat)
  case atStart => exact ⟨0, [], Nat.zero_le _, rfl, World.ownsRow_nil _ _ _ _, trivial, Below.refl _ _⟩
  case round =>
    obtain ⟨k, cs, hk, rfl, hown, hfc, hbel⟩ := hrel
    have HZ := hide z0
    clear hw0 z0
    have lt1 : (L.take k).length ≤ 100 := by simp; omega
    have hbs : w.heap.size + 2 ≤ wr.heap.size := by have := hbel.size; have := unhide HZ; omega
    by_cases hlt : k < L.length
    · obtain ⟨f, hfk⟩ : ∃ f, L[k]? = some f := ⟨L[k], List.getElem?_eq_getElem hlt⟩
      obtain ⟨a', sc', hv', -, -, -, ho⟩ := H0.open
      simp only [Value.slice.injEq, true_and] at hv'
      obtain ⟨rfl, rfl⟩ := hv'
      obtain ⟨b, off, rfl, hb, hc⟩ := ho (by omega)
      obtain ⟨da, dc, c0, c1, c2, c3⟩ := hc k f hfk
      have hbz : b < w.heap.size + 2 := by have := unhide HZ; omega
      have d0 := (hbel.cell (p := ⟨b, off + k * 3, none⟩) hbz).trans c0
      have d1 := (hbel.cell (p := ⟨b, off + k * 3 + 1, none⟩) hbz).trans c1
      have d2 := (hbel.cell (p := ⟨b, off + k * 3 + 2, none⟩) hbz).trans c2
      have hfl := (hf.2 f (List.mem_of_getElem? hfk)).1
      have HTS : Hid (L.take (k + 1) = L.take k ++ [f]) := by
        obtain ⟨hk', rfl⟩ := List.getElem?_eq_some_iff.1 hfk
        exact List.take_succ_eq_append_getElem hk'
      have hb0 : Below w0.heap.size w0 wr := by rw [unhide HZ]; exact hbel
      have C3 := (c3.below hb0).below (below_alloc wr (.cells #[.string f.nm, .slice da f.da.length dc, .bool f.su] 48))
      clear ho hc c0 c1 c2 c3 hfk b0 b1 y0 y1 n0 n1
      go_wp2_with fail
      refine (clone_any _ _ _ C3 (by omega)).mono ?_
      rintro e w1 ⟨dv, rfl, own1, B1⟩
      have hz1 : wr.heap.size + 1 ≤ w1.heap.size := by have := B1.size; simp at this; omega
      have t0 : w1.cell? ⟨wr.heap.size, 0, none⟩ = some (.string f.nm) := (B1.cell (p := ⟨wr.heap.size, 0, none⟩) (by simp)).trans (by simp)
      have t1 : w1.cell? ⟨wr.heap.size, 1, none⟩ = some (.slice da f.da.length dc) := (B1.cell (p := ⟨wr.heap.size, 1, none⟩) (by simp)).trans (by simp)
      have t2 : w1.cell? ⟨wr.heap.size, 2, none⟩ = some (.bool f.su) := (B1.cell (p := ⟨wr.heap.size, 2, none⟩) (by simp)).trans (by simp)
      have t3 : w1.frozen? ⟨wr.heap.size, 1, none⟩ = false := (B1.frozen (p := ⟨wr.heap.size, 1, none⟩) (by simp)).trans (by simp [go_sem])
      have own1' := own_mono (B' := w.heap.size + 2) own1 (by simp; omega)
      obtain ⟨dva, dvc, rfl, -⟩ := id (Sl.owned own1)
      have P1 : Pd (w.heap.size + 2) (w1.setCell ⟨wr.heap.size, 1, none⟩ (.slice dva f.da.length dvc)) (.slice dva f.da.length dvc) f.da :=
        own_set own1' (fun k hk => by have := (own1.lt k hk).1; simp at this; show k ≠ wr.heap.size; omega) _
      have O1 := own_round hown B1 1 (.slice dva f.da.length dvc)
      have F1 : FCp (Pd (w.heap.size + 2) (w1.setCell ⟨wr.heap.size, 1, none⟩ (.slice dva f.da.length dvc))) cs (L.take k) := hfc.turn fun v z h => own_round h B1 1 _
      have hB1 : Below (w.heap.size + 2) w0 (w1.setCell ⟨wr.heap.size, 1, none⟩ (.slice dva f.da.length dvc)) := ((hbel.alloc hbs _).trans (B1.mono (by simp; omega))).setCell (by exact hbs) _
      have hs1 : (w1.setCell ⟨wr.heap.size, 1, none⟩ (.slice dva f.da.length dvc)).heap.size = w1.heap.size := by simp
      have HS1 := hide hs1
      clear hs1 own1 own1' B1 hown hfc hbel C3 d0 d1 d2
      go_wp2_with (at_builtin; refine append_file_p (f := f) Pd.one rfl _ _ rfl rfl rfl (by simp) O1 F1 P1 (by rw [unhide HS1]; omega) (by omega) ?_; intro v2 w2 cs2 O2 F2 G2)
      have F3 : FCp (Pd (w.heap.size + 2) w2) cs2 (L.take k ++ [f]) := F2.turn fun v z h => World.ownsRow.kept h G2 (own_apart h O1 (by decide))
      have hB2 := hB1.grown G2 (by rw [unhide HS1]; omega) (fun j hj => (O1.lt j hj).1)
      go_roundw
      case rel => exact ⟨k + 1, cs2, by omega, by go_num, by rw [unhide HTS]; exact O2, by rw [unhide HTS]; exact F3, hB2⟩
      case measure => simp [intOf]; omega
    · have q0 := (hbel.cell (p := ⟨w.heap.size, 0, none⟩) (by simp)).trans b0
      have q1 := (hbel.cell (p := ⟨w.heap.size + 1, 0, none⟩) (by simp)).trans y0
      have q2 := (hbel.cell (p := ⟨w.heap.size + 1, 1, none⟩) (by simp)).trans y1
      have q3 := (hbel.frozen (p := ⟨w.heap.size + 1, 0, none⟩) (by simp)).trans n0
      have q4 := (hbel.frozen (p := ⟨w.heap.size + 1, 1, none⟩) (by simp)).trans n1
      have hlk : L.take k = L := List.take_of_length_le (by omega)
      rw [hlk] at hown hfc
      have hb0 : Below w0.heap.size w0 wr := by rw [unhide HZ]; exact hbel
      have BB := below_trans' B0 hb0
      have BE := (BB.setCell (p := ⟨w.heap.size + 1, 0, none⟩) (by simp) (.int .i64 cap)).setCell (p := ⟨w.heap.size + 1, 1, none⟩) (by simp) u3
      have FE := own_end hown hfc (p := ⟨w.heap.size + 1, 0, none⟩) (q := ⟨w.heap.size + 1, 1, none⟩) (by simp) (by simp) (.int .i64 cap) u3
      obtain ⟨ea, ec, rfl, -⟩ := id FE
      clear b0 b1 y0 y1 n0 n1 hbel hb0 hlk hown hfc
      go_wp2
      exact bodyPost_ret (v := .agg #[.int .i64 cap, .slice ea L.length ec]) (by simp [results, Try.results38, go_sem, q1, q2]) rfl ⟨_, rfl, FE, BE⟩
end Go.Proofs.Ytnhhmohicjgpgaa
