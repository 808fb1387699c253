/-
  Texts put together: OwnS8.
-/
import Derived.Test.YtnahjaloodeicaaGreatM10
import Derived.Deep.RegionHeld3
import Derived.Deep.AppendLies
import Derived.Lib.SliceRun
/-
  The contracts of slices.Clone at numbers, and of own: the same postings in new memory.
-/
namespace Go.Proofs.YtnahjaloodeicaaGreat
set_option maxRecDepth 100000
open Go.RowKit

set_option maxHeartbeats 1000000 in
theorem clone_any (v : Value) (l : List Int) (w : World) (h : Sl .i64 w v l) (hll : l.length ≤ 1000000) :
    Calls Tryz.prog 71 #[v] w fun e w' => ∃ v', e = .returned v' ∧ Pa w.heap.size w' v' l ∧ Below w.heap.size w w' := by
  obtain ⟨i0, hi, hz0, hz1, hz2⟩ := info_parts Tryz.info3
  have H := h
  obtain ⟨a, cap, rfl, hl, hm, hna, -⟩ := h
  have q : ∀ (w : World) (a : Option Addr) (n c n' c' : Nat), (binOp .eql 27 (.slice a n c) (.slice none n' c')).run Tryz.prog w = .ok (.bool a.isNone) w := fun w a n c n' c' => Lib.run_eql_slice_nil w _ _ a n c n' c' Tryz.underlying27
  cases a with
  | none =>
    have hl0 : l = [] := List.eq_nil_of_length_eq_zero (by have := hna rfl; omega)
    subst hl0
    clear H
    go_enter Tryz.func71, Tryz.ntmps71
    go_wp2
    go_ret
    exact ⟨_, rfl, World.ownsRow_nil _ _ _ _, Below.refl _ _⟩
  | some x =>
    have H1 := H.below (below_alloc w (.cells #[] 3))
    have O1 := World.ownsRow_made (base := w.heap.size) (e := 3) (size := 1) w #[] 0 (Nat.le_refl _) (Nat.zero_le _) rfl
    go_enter Tryz.func71, Tryz.ntmps71
    go_wp2_with (at_builtin; refine append_all (k := .i64) rfl _ _ 27 rfl Tryz.underlying27 hi hz0 hz1 hz2 rfl (B := w.heap.size) (w0 := w) (pre := []) (zs := l) rfl rfl H1 O1 (below_alloc _ _) (by simp) (by simp; omega) (by decide) ?_; intro v1 w1 O2 B2)
    go_ret
    exact ⟨_, rfl, by simpa [Pa] using O2, B2⟩

/-- Nothing too great for the walks. -/
def Fits (L : List Pt) : Prop := L.length ≤ 100 ∧ ∀ p ∈ L, p.a.length ≤ 1000

/-- The rows of places lie apart from each other. -/
def Ap (cs : List Value) : Prop := ∀ i j u v g, i ≠ j → cs[i * 2 + 1]? = some u → cs[j * 2 + 1]? = some v → u.ownBlock = some g → v.ownBlock ≠ some g

theorem PCp.odd {Q : Value → List Int → Prop} {cs : List Value} {L : List Pt} (h : PCp Q cs L) {i : Nat} {u : Value} (hu : cs[i * 2 + 1]? = some u) : ∃ p, L[i]? = some p ∧ Q u p.a := by
  have hl := h.len
  have hi := (List.getElem?_eq_some_iff.1 hu).1
  have hL : i < L.length := by omega
  obtain ⟨dv, -, h1, h2⟩ := h.at i L[i] (List.getElem?_eq_getElem hL)
  rw [hu] at h1
  simp at h1
  subst h1
  exact ⟨L[i], List.getElem?_eq_getElem hL, h2⟩

theorem Ap.nil : Ap [] := fun i j u v g _ h => by simp at h

theorem Ap.snoc {cs : List Value} {n : Nat} (hl : cs.length = n * 2) (h : Ap cs) {x dv : Value} (hd : ∀ i u g, cs[i * 2 + 1]? = some u → u.ownBlock = some g → dv.ownBlock ≠ some g) : Ap (cs ++ [x, dv]) := by
  intro i j u v g hij hu hv hg
  have hi : i ≤ n := by
    have := (List.getElem?_eq_some_iff.1 hu).1
    simp at this
    omega
  have hj : j ≤ n := by
    have := (List.getElem?_eq_some_iff.1 hv).1
    simp at this
    omega
  have key : ∀ k w, k ≤ n → (cs ++ [x, dv])[k * 2 + 1]? = some w → (k < n ∧ cs[k * 2 + 1]? = some w) ∨ (k = n ∧ w = dv) := by
    intro k w hk hw
    rcases Nat.lt_or_ge k n with h1 | h1
    · left
      rw [List.getElem?_append_left (by omega)] at hw
      exact ⟨h1, hw⟩
    · right
      have e : k = n := by omega
      subst e
      rw [List.getElem?_append_right (by omega), hl, show k * 2 + 1 - k * 2 = 1 by omega] at hw
      simp at hw
      exact ⟨rfl, hw.symm⟩
  rcases key i u hi hu with ⟨i1, hu'⟩ | ⟨rfl, rfl⟩
  · rcases key j v hj hv with ⟨j1, hv'⟩ | ⟨rfl, rfl⟩
    · exact h i j u v g hij hu' hv' hg
    · exact hd i u g hu' hg
  · rcases key j v hj hv with ⟨j1, hv'⟩ | ⟨rfl, rfl⟩
    · intro e
      exact hd j v g hv' e hg
    · exact absurd rfl hij

set_option maxRecDepth 100000 in
set_option maxHeartbeats 4000000 in
theorem own_any (v : Value) (L : List Pt) (w : World) (h : Pl w v L) (hf : Fits L) :
    Calls Tryz.prog 45 #[v] w fun e w' => ∃ v' cs, e = .returned v' ∧ w'.ownsRow w.heap.size 58 2 v' L.length cs ∧ PCp (Pa w.heap.size w') cs L ∧ Ap cs ∧ Below w.heap.size w w' := by
  obtain ⟨i0, hi, hz0, hz1, hz2⟩ := info_parts Tryz.infoP
  have hL := hf.1
  have H := h
  obtain ⟨a, cap, rfl, hl, hm, hna, -⟩ := h.open
  clear h
  go_enter Tryz.func45, Tryz.ntmps45
  go_wp2
  go_loopw [3, 8] (fun ov iv wr => ∃ (k : Nat) (pre : List Pt) (cs : List Value), k ≤ L.length ∧ iv = .int .i64 k ∧ pre = L.take k ∧ wr.ownsRow w.heap.size 58 2 ov pre.length cs ∧ PCp (Pa w.heap.size wr) cs pre ∧ Ap cs ∧ Below w.heap.size w wr) (fun _ iv _ => L.length - (intOf iv).toNat)
  case atStart => exact ⟨0, [], [], Nat.zero_le _, rfl, rfl, World.ownsRow_nil _ _ _ _, trivial, Ap.nil, Below.refl _ _⟩
  case round =>
    obtain ⟨k, pre, cs, hk, rfl, hpre, hown, hpc, hap, hbel⟩ := hrel
    have HP := hide hpre
    have hpl : pre.length ≤ 100 := by rw [hpre]; simp; omega
    clear hpre
    by_cases hlt : k < L.length
    · have H1 := H.below hbel
      obtain ⟨a', cap', hv', -, -, -, ho⟩ := H1.open
      simp only [Value.slice.injEq, true_and] at hv'
      obtain ⟨rfl, rfl⟩ := hv'
      obtain ⟨b, off, rfl, hb, hc⟩ := ho (by omega)
      obtain ⟨p, hp⟩ : ∃ p, L[k]? = some p := ⟨L[k], List.getElem?_eq_getElem hlt⟩
      obtain ⟨da, dc, c0, c1, c2⟩ := hc k p hp
      have hpa := hf.2 p (List.mem_of_getElem? hp)
      have HTS : Hid (L.take (k + 1) = L.take k ++ [p]) := by
        obtain ⟨hk', rfl⟩ := List.getElem?_eq_some_iff.1 hp
        exact List.take_succ_eq_append_getElem hk'
      obtain ⟨W, hW⟩ : ∃ W, W = wr.alloc (.cells #[.int .i64 p.d, .slice da p.a.length dc] 58) := ⟨_, rfl⟩
      have CW : Sl .i64 W.drew (.slice da p.a.length dc) p.a := by rw [hW]; exact c2.below (below_alloc wr _).drew
      have y0 : W.cell? ⟨wr.heap.size, 0, none⟩ = some (.int .i64 p.d) := by rw [hW]; simp
      have y1 : W.cell? ⟨wr.heap.size, 1, none⟩ = some (.slice da p.a.length dc) := by rw [hW]; simp
      have zW : W.heap.size = wr.heap.size + 1 := by rw [hW]; simp
      have BW : Below wr.heap.size wr W := by rw [hW]; exact below_alloc _ _
      have OW : W.drew.ownsRow w.heap.size 58 2 u3 pre.length cs := own_below hown BW.drew
      have HPC := hide hpc
      have HAP := hide hap
      have ag : u3.ownBlock ≠ some wr.heap.size := fun h => by have := (hown.lt _ h).2; omega
      have HOW := hide hown
      have HZ := hide zW
      have hbw := hbel.size
      clear ho hc H1 c2 hp hpc hap hown zW
      go_wp2
      rw [← hW]
      clear hW c0 c1
      go_region_held3 (fun w' => w'.cell? ⟨wr.heap.size, 0, none⟩ = some (.int .i64 p.d) ∧ w'.cell? ⟨wr.heap.size, 1, none⟩ = some (.slice da p.a.length dc))
        (first
          | go_keep
          | (go_split_ands; exact ⟨cell_keep (by assumption) B1, cell_keep (by assumption) B1⟩)
          | (go_split_ands
             refine ⟨?_, ?_⟩
             · (rw [hgrow.cell_far _ (by have := B1.size; have := unhide HZ; simp at *; omega) (Ne.symm ag)]; assumption)
             · (rw [hgrow.cell_far _ (by have := B1.size; have := unhide HZ; simp at *; omega) (Ne.symm ag)]; assumption)))
        (first
          | (go_at_call 71; refine (clone_any _ _ _ CW (by omega)).mono ?_; rintro e w1 ⟨dv, rfl, P1, B1⟩; have O1 := own_below OW B1; obtain ⟨dva, dvc, rfl, -⟩ := id P1.sl)
          | (refine step_append_lies _ (by rfl) _ _ _ (by rfl) w.heap.size 58 i0 _ 2 32 Tryz.underlying55 hi hz0 hz1 hz2 rfl (by omega) u3 _ _ (by rfl) (O1.alloc _)
                      ⟨w1.heap.size, 0, none⟩ 1 1 [.int .i64 p.d, .slice dva p.a.length dvc] (by rfl) (by rfl) (World.news_of_block (cs := #[.int .i64 p.d, .slice dva p.a.length dvc]) (t := 58) (fr := (0, 0)) (heap_alloc_new w1 _)) (by simp [Value.oneCell'])
                      (by omega) (by unfold maxLen; omega) (by omega) (by have := B1.size; have := unhide HZ; simp at *; omega) (w1.heap.size + 1) (by simp) ?_; intro gg gcap w3 hown3 hgrow hat hlt3))
      have zd : W.drew.heap.size = wr.heap.size + 1 := unhide HZ
      have B2 := below_trans' BW.drew B1
      have O2 := O1.alloc (.cells #[.int .i64 p.d, .slice dva p.a.length dvc] 58)
      have K3 : ∀ u z, Pa w.heap.size w1 u z → Pa w.heap.size w3 u z := fun u z h => World.ownsRow.kept (World.ownsRow.alloc h _) hgrow (own_apart (World.ownsRow.alloc h _) O2 (by decide))
      have P3 : Pa w.heap.size w3 (.slice dva p.a.length dvc) p.a := K3 _ _ (own_mono P1 (by rw [zd]; omega))
      have PC3 := ((unhide HPC).turn (fun u z h => K3 u z (own_below h B2))).append (PCp.one (f := p) P3)
      have AP3 := Ap.snoc (n := pre.length) (x := .int .i64 p.d) (dv := .slice dva p.a.length dvc) (unhide HPC).len (unhide HAP) (fun i u g hu hg e => by
        obtain ⟨q, -, hq⟩ := (unhide HPC).odd hu
        have h1 := (World.ownsRow.lt hq g hg).2
        have h2 := (World.ownsRow.lt P1 g e).1
        rw [zd] at h2
        omega)
      have B3 : Below w.heap.size w w3 := ((below_trans' hbel B2).alloc (below_trans' hbel B2).size _).grown hgrow (by have := (below_trans' hbel B2).size; simp; omega) (fun j hj => (O1.lt j hj).1)
      have HO3 := hide hown3
      have HPC3 := hide PC3
      have HAP3 := hide AP3
      clear PC3 AP3 hown3 P3 K3 O2 O1 P1 B1 OW CW y0 y1 zd B2 BW hgrow
      go_wp2
      go_roundw
      case rel => exact ⟨k + 1, pre ++ [p], _, by omega, by go_num, by rw [unhide HTS, unhide HP], by simpa using unhide HO3, unhide HPC3, unhide HAP3, B3⟩
      case measure => simp [intOf]; omega
    · have hlk : pre = L := by rw [unhide HP]; exact List.take_of_length_le (by omega)
      subst hlk
      go_wp2
      go_ret
      exact ⟨_, cs, rfl, hown, hpc, hap, hbel⟩

end Go.Proofs.YtnahjaloodeicaaGreat
