/-
  PolicyIdle: proposals are of unlike segments, that are there, and idle: of two at least, or of one that has dead ones.
-/
import Derived.Test.YtfniphaehggcgaaPolicyTellsKeeps12
namespace Go.Proofs.Ytfniphaehggcgaa
set_option maxRecDepth 100000
open Go.RowKit Go.Deep

/-- Proposals are right. -/
def RightP (L : List Sz) (p : List (List Int)) : Prop := ∀ (i : Nat) (f : List Int), p[i]? = some f → f ≠ [] ∧ ∀ (k : Nat) (x : Int), f[k]? = some x → ∃ s, Z.find L x = some s ∧ s.busy = false ∧ x ∉ (p.take i).flatten ∧ x ∉ f.take k ∧ ¬ (f.length = 1 ∧ s.dead = 0)
theorem RightP.nil (L : List Sz) : RightP L [] := fun i f h => by simp at h

namespace Z
theorem flat_split {p : List (List Int)} {i : Nat} {f : List Int} (h : p[i]? = some f) : p.flatten = (p.take i).flatten ++ (f ++ (p.drop (i + 1)).flatten) := by
  have e : p = p.take i ++ f :: p.drop (i + 1) := by
    rw [← drop_at12 h, List.take_append_drop]
  conv => lhs; rw [e]
  rw [List.flatten_append, List.flatten_cons]
theorem right_of {half : Bool} {L : List Sz} {G : List (List Sz)} (h : Ready L) (hm : ∀ s ∈ G.flatten, s ∈ L ∧ s.busy = false) (hn : (gens G.flatten).Nodup) (ht : ∀ g ∈ G, 2 ≤ g.length) : RightP L (prop half L G) := by
  have hfl : (prop half L G).flatten.Nodup := by
    rw [prop_flat]
    unfold gens
    rw [List.map_append, List.nodup_append]
    refine ⟨hn, h.2.2.sublist (gens_sub (List.filter_sublist.trans List.filter_sublist)), fun a ha b hb e => ?_⟩
    obtain ⟨t, k3, k4⟩ := List.mem_map.1 hb
    exact (alone_mem.1 k3).2.2.2 (by rw [k4, ← e]; exact ha)
  intro i f hf
  have hfm := List.mem_of_getElem? hf
  have hcase : (∃ g ∈ G, f = gens g) ∨ ∃ s ∈ alone half L G, f = [s.gen] := by
    rw [prop_eq] at hfm
    rcases List.mem_append.1 hfm with hfm | hfm
    · obtain ⟨g, h1, h2⟩ := List.mem_map.1 hfm
      exact .inl ⟨g, h1, h2.symm⟩
    · obtain ⟨g, h1, h2⟩ := List.mem_map.1 hfm
      exact .inr ⟨g, h1, h2.symm⟩
  have hlen2 : ∀ g ∈ G, f = gens g → 2 ≤ f.length := fun g hg e => by
    have := ht g hg
    rw [e]
    simpa [gens] using this
  refine ⟨fun e => ?_, fun k x hx => ?_⟩
  · rcases hcase with ⟨g, h1, h2⟩ | ⟨s, h1, h2⟩
    · have := hlen2 g h1 h2
      rw [e] at this
      simp at this
    · rw [e] at h2
      cases h2
  · have hsp := hfl
    rw [flat_split hf, List.nodup_append, List.nodup_append] at hsp
    obtain ⟨-, ⟨n1, -, -⟩, n3⟩ := hsp
    have hxf := List.mem_of_getElem? hx
    have hno : x ∉ (( prop half L G).take i).flatten := fun hm9 => n3 x hm9 x (List.mem_append_left _ hxf) rfl
    have hno2 : x ∉ f.take k := fun hm9 => by
      have e : f = f.take k ++ x :: f.drop (k + 1) := by rw [← drop_at12 hx, List.take_append_drop]
      rw [e, List.nodup_append] at n1
      exact n1.2.2 x hm9 x (by simp) rfl
    rcases hcase with ⟨g, h1, h2⟩ | ⟨s, h1, h2⟩
    · rw [h2] at hxf
      obtain ⟨s, k1, k2⟩ := List.mem_map.1 hxf
      obtain ⟨k3, k4⟩ := hm s (List.mem_flatten.2 ⟨g, h1, k1⟩)
      refine ⟨s, by rw [← k2]; exact find_mem h.2.2 k3, k4, hno, hno2, fun hh => ?_⟩
      have := hlen2 g h1 h2
      omega
    · rw [h2] at hxf
      simp only [List.mem_singleton] at hxf
      obtain ⟨k1, k2, k3, -⟩ := alone_mem.1 h1
      refine ⟨s, by rw [hxf]; exact find_mem h.2.2 k1, k2, hno, hno2, fun hh => ?_⟩
      have hl := (h.2.1 s k1).live
      unfold crit at k3
      split at k3
      · have := of_decide_eq_true k3; omega
      · have := of_decide_eq_true k3; omega
theorem right_pr {lg : Bool} {per : Nat} {most : Int} {L : List Sz} (h : Ready L) (hm : most ≤ 64) : RightP L (prop true L (grps lg per most L)) := by
  have := grps_grp (lg := lg) (per := per) h.2.2 hm
  exact right_of h this.mem this.nodup this.two
theorem right_force {n : Int} {L : List Sz} (h : Ready L) (hn : 1 ≤ n) : RightP L (prop false L (forceG n L)) := by
  have hs : ((L.filter idle).take ((L.filter idle).length - n.toNat + 1)).Sublist L := (List.take_sublist _ _).trans List.filter_sublist
  refine right_of h (fun s hs' => ?_) ?_ (fun g hg => ?_)
  · unfold forceG at hs'
    split at hs'
    · cases hs'
    · simp only [List.flatten_cons, List.flatten_nil, List.append_nil] at hs'
      have := List.mem_filter.1 (List.mem_of_mem_take hs')
      exact ⟨this.1, by have h9 := this.2; simpa [idle] using h9⟩
  · unfold forceG
    split
    · simp [gens]
    · simp only [List.flatten_cons, List.flatten_nil, List.append_nil]
      exact h.2.2.sublist (gens_sub hs)
  · unfold forceG at hg
    split at hg
    · cases hg
    · rename_i h1
      simp only [List.mem_singleton] at hg
      subst hg
      rw [List.length_take]
      omega
end Z

theorem Gl.take12 {α : Type} {f : α → Value} {w : World} {a : Option Addr} {n cap : Nat} {l : List α} (h : Gl f w (.slice a n cap) l) (m : Nat) (hm : m ≤ n) : Gl f w (.slice a m cap) (l.take m) := by
  obtain ⟨a', cap', hv, hl, hm', hn, hc⟩ := h
  simp only [Value.slice.injEq] at hv
  obtain ⟨rfl, rfl, rfl⟩ := hv
  have hlen : (l.take m).length = m := by simp; omega
  refine ⟨a, cap, by rw [hlen], by omega, hm', hn, fun x hx i y hi => hc x hx i y ?_⟩
  rw [List.getElem?_take] at hi
  split at hi
  · exact hi
  · cases hi
theorem Lg.take12 {w : World} {a : Option Addr} {n cap : Nat} {p : List (List Int)} (h : Tl w (.slice a n cap) p) (m : Nat) (hm : m ≤ n) : Tl w (.slice a m cap) (p.take m) := by
  obtain ⟨us, h1, h2, h3⟩ := h
  refine ⟨us.take m, h1.take12 m hm, by rw [List.length_take, List.length_take, h2], fun i s l hs hl => ?_⟩
  rw [List.getElem?_take] at hs hl
  split at hs
  · rename_i h9
    rw [if_pos h9] at hl
    exact h3 i s l hs hl
  · cases hs

theorem Try.tto (a : Option Addr) (n cap m : Nat) (x : Int) (hx : x = m) (hm : m ≤ cap) (ha : ∀ p, a = some p → p.spot = none) (w : World) :
    (Instr.slice 27 (.slice a n cap) none (some (.int .i64 x)) none).run Try.prog w = .ok (.slice a m cap) w := by
  subst hx
  have hs : ∀ w : World, (sizeOf (Try.prog.elem 27)).run Try.prog w = .ok 1 w := fun w => by kernel_rfl
  rw [run_slice_h w 27 _ n cap (by kernel_rfl) .i64 m (by omega) (by omega), hs]
  cases a with
  | none => simp [Result.andThen, sliced]
  | some p =>
    obtain ⟨b, off, spot⟩ := p
    obtain rfl : spot = none := ha _ rfl
    simp [Result.andThen, sliced, Addr.add_lit]
theorem Try.ito (a : Option Addr) (n cap m : Nat) (x : Int) (hx : x = m) (hm : m ≤ cap) (ha : ∀ p, a = some p → p.spot = none) (w : World) :
    (Instr.slice 47 (.slice a n cap) none (some (.int .i64 x)) none).run Try.prog w = .ok (.slice a m cap) w := by
  subst hx
  have hs : ∀ w : World, (sizeOf (Try.prog.elem 47)).run Try.prog w = .ok 1 w := fun w => by kernel_rfl
  rw [run_slice_h w 47 _ n cap (by kernel_rfl) .i64 m (by omega) (by omega), hs]
  cases a with
  | none => simp [Result.andThen, sliced]
  | some p =>
    obtain ⟨b, off, spot⟩ := p
    obtain rfl : spot = none := ha _ rfl
    simp [Result.andThen, sliced, Addr.add_lit]

set_option maxRecDepth 100000 in
set_option maxHeartbeats 8000000 in
theorem right_any (v u : Value) (L : List Sz) (p : List (List Int)) (w : World) (h : Zl w v L) (hp : Tl w u p) (hR : RightP L p) :
    Calls Try.prog 19 #[v, u] w fun e w' => e = .returned (.bool true) ∧ Below w.heap.size w w' := by
  have HV := hide h
  have HP := hide hp
  have HR := hide hR
  obtain ⟨a, cap, rfl, -⟩ := h.open
  obtain ⟨a2, cap2, rfl, hq1, hq2, -⟩ := hp.at
  clear h hp hR
  go_enter Try.func19, Try.ntmps19
  go_wp2
  go_loopw [5] (fun iv wr => ∃ i : Nat, i ≤ p.length ∧ iv = .int .i64 i ∧ Below w.heap.size w wr) (fun iv _ => p.length - (intOf iv).toNat)
  case atStart => exact ⟨0, Nat.zero_le _, rfl, Below.refl _ _⟩
  case round =>
    obtain ⟨i, hi, rfl, hbel⟩ := hrel
    by_cases hlt : i < p.length
    · obtain ⟨a', c', hv', -, -, ho⟩ := (unhide HP).at
      simp only [Value.slice.injEq, true_and] at hv'
      obtain ⟨rfl, rfl⟩ := hv'
      obtain ⟨b, off, rfl, hb, hc⟩ := ho (by omega)
      obtain ⟨f, hx⟩ : ∃ x, p[i]? = some x := ⟨p[i], List.getElem?_eq_getElem hlt⟩
      obtain ⟨fa, fc, d0, FI⟩ := hc i f hx
      obtain ⟨hf0, hfk⟩ := unhide HR i f hx
      have hfl : 0 < f.length := List.length_pos_iff.2 hf0
      have hfm : f.length ≤ 9223372036854775807 := FI.len
      have q0 : ((f.length : Int) == 0) = false := beq_eq_false_iff_ne.2 (by omega)
      have c0 := (hbel.cell (p := ⟨b, off + i, none⟩) hb).trans d0
      have HFI := hide FI
      have HFK := hide hfk
      have HX := hide hx
      have R1 := Try.tto (some ⟨b, off, none⟩) p.length cap2 i (i : Int) rfl (by omega) (fun q hq => by cases hq; rfl)
      have HTK := hide (Lg.take12 (unhide HP) i hi)
      clear ho hc hx FI hfk hf0
      rename World => w0
      go_wp2
      go_loopw [6] (fun kv wr => ∃ k : Nat, k ≤ f.length ∧ kv = .int .i64 k ∧ Below w.heap.size w wr) (fun kv _ => f.length - (intOf kv).toNat)
      case atStart => exact ⟨0, Nat.zero_le _, rfl, hbel⟩
      case round =>
        clear hbel c0
        obtain ⟨k, hk, rfl, hbel⟩ := hrel
        have c0 := (hbel.cell (p := ⟨b, off + i, none⟩) hb).trans d0
        by_cases hlk : k < f.length
        · obtain ⟨fa', fc', hv', hf1, hf2, -, hof⟩ := (unhide HFI).open
          simp only [Value.slice.injEq, true_and] at hv'
          obtain ⟨rfl, rfl⟩ := hv'
          obtain ⟨fb, foff, rfl, hfb, hfc⟩ := hof hfl
          obtain ⟨x, hxk⟩ : ∃ x, f[k]? = some x := ⟨f[k], List.getElem?_eq_getElem hlk⟩
          have e0 := (hbel.cell (p := ⟨fb, foff + k, none⟩) hfb).trans (hfc k x hxk)
          obtain ⟨s, hs1, hs2, hs3, hs4, hs5⟩ := unhide HFK k x hxk
          have CS := zsize_any _ L x wr (Kl.below (unhide HV) hbel)
          rw [hs1] at CS
          simp only [Option.getD_some, Option.isSome_some] at CS
          unfold zv at CS
          rw [hs2] at CS
          have R2 := Try.ito (some ⟨fb, foff, none⟩) f.length fc k (k : Int) rfl (by omega) (fun q hq => by cases hq; rfl)
          have CH1 := fun w' (hb : Below w.heap.size w w') => rHas_any _ (p.take i) x w' ((unhide HTK).below hb) false ⟨(fun h => by cases h), fun h => absurd h hs3⟩
          have CH2 : ∀ w', Below w.heap.size w w' → Calls Try.prog 25 #[.slice (some ⟨w'.heap.size, 0, none⟩) 1 1, .int .i64 x] (w'.alloc (.cells #[.slice (some ⟨fb, foff, none⟩) k fc] 47)).drew fun e w'' => e = .returned (.bool false) ∧ w'' = (w'.alloc (.cells #[.slice (some ⟨fb, foff, none⟩) k fc] 47)).drew := fun w' hb =>
            rHas_any _ [f.take k] x _ ((tlit1 w' (some ⟨fb, foff, none⟩, k, fc) (f.take k) (Gl.below ((unhide HFI).take12 k hk) hb)).below (Below.refl _ _).drew) false ⟨(fun h => by cases h), fun h => absurd (by simpa using h) hs4⟩
          have HC1 := hide CH1
          have HC2 := hide CH2
          have HS5 := hide hs5
          clear hof hfc hxk hs1 hs2 hs3 hs4 hs5 CH1 CH2
          go_wp2_with fail
          refine CS.mono ?_
          rintro e w1 ⟨rfl, B1⟩
          have BB1 := below_trans' hbel B1
          obtain ⟨W, hW⟩ : ∃ W, W = w1.alloc (.cells #[.int .i64 s.gen, .int .i64 s.docs, .int .i64 s.dead, .bool false] 36) := ⟨_, rfl⟩
          have BW : Below w.heap.size w W := by rw [hW]; exact below_all BB1 _
          obtain ⟨y0, y1, y2, y3⟩ := box4 (s := ⟨s.gen, s.docs, s.dead, false⟩) (w := W) (g := w1.heap.size) (fr := (0, 0)) (T := 36) (by rw [hW]; exact heap_alloc_new w1 _)
          simp only at y0 y1 y2 y3
          have c1 : W.cell? ⟨b, off + i, none⟩ = some (.slice (some ⟨fb, foff, none⟩) f.length fc) := (BW.cell (p := ⟨b, off + i, none⟩) hb).trans d0
          have e1 : W.cell? ⟨fb, foff + k, none⟩ = some (.int .i64 x) := by
            have h1 := cell_keep e0 B1
            rw [hW]
            exact cell_keep h1 (below_alloc _ _)
          have HW := hide hW
          clear CS B1 c0 e0 hW BB1 hbel
          go_upto_region 10 with fail
          rw [← unhide HW]
          go_quiet ((go_at_call 25; exact Calls.quiet_of_same (unhide HC1 _ (below_dr' BW _))))
          obtain ⟨W2, hW2⟩ : ∃ W2, W2 = W.drewN nq := ⟨_, rfl⟩
          have BW2 : Below W.heap.size W W2 := by rw [hW2]; exact below_dr' (Below.refl _ _) nq
          have BX2 := below_trans' BW BW2
          have y0 := cell_keep y0 BW2
          have y1 := cell_keep y1 BW2
          have y2 := cell_keep y2 BW2
          have y3 := cell_keep y3 BW2
          have c1 := cell_keep c1 BW2
          have e1 := cell_keep e1 BW2
          rw [← hW2]
          have KB : ∀ w' : World, Below W2.heap.size W2 w' → w'.cell? ⟨b, off + i, none⟩ = some (.slice (some ⟨fb, foff, none⟩) f.length fc) ∧ w'.cell? ⟨fb, foff + k, none⟩ = some (.int .i64 x) ∧ Below w.heap.size w w' := fun w' hb => ⟨cell_keep c1 hb, cell_keep e1 hb, below_trans' BX2 hb⟩
          have HKB := hide KB
          clear hW2 KB
          go_upto_region 11 with fail
          go_region_held3 (fun w' => w'.cell? ⟨b, off + i, none⟩ = some (.slice (some ⟨fb, foff, none⟩) f.length fc) ∧ w'.cell? ⟨fb, foff + k, none⟩ = some (.int .i64 x) ∧ Below w.heap.size w w')
            (first
              | with_reducible assumption
              | exact unhide HKB _ (Below.refl _ _).drew
              | exact unhide HKB _ (below_all (Below.refl _ _) _)
              | exact unhide HKB _ (below_all (Below.refl _ _) _).drew
              | exact unhide HKB _ (below_all (Below.refl _ _).drew _))
            (first
              | (go_at_call 25; go_split_ands; refine (unhide HC2 _ BX2).mono ?_; rintro e w9 ⟨rfl, rfl⟩))
          obtain ⟨W3, hW3⟩ : ∃ W3, W3 = (W2.alloc (.cells #[.slice (some ⟨fb, foff, none⟩) k fc] 47)).drew := ⟨_, rfl⟩
          have B23 : Below W2.heap.size W2 W3 := by rw [hW3]; exact (below_alloc _ _).drew
          have BX3 := below_trans' BX2 B23
          have y2 := cell_keep y2 B23
          have y3 := cell_keep y3 B23
          have c1 := cell_keep c1 B23
          rw [← hW3]
          clear hW3 B23 BX2 BW2
          by_cases hf1 : f.length = 1
          · have q1 : ((f.length : Int) == 1) = true := by rw [hf1]; rfl
            have q2 : (s.dead == 0) = false := beq_eq_false_iff_ne.2 fun e => unhide HS5 ⟨hf1, e⟩
            clear hf1
            go_wp2
            go_roundw
            case rel => exact ⟨k + 1, by omega, by go_num, BX3⟩
            case measure => simp [intOf]; omega
          · have q1 : ((f.length : Int) == 1) = false := beq_eq_false_iff_ne.2 fun e => hf1 (by omega)
            clear hf1
            go_wp2
            go_roundw
            case rel => exact ⟨k + 1, by omega, by go_num, BX3⟩
            case measure => simp [intOf]; omega
        · go_wp2
          go_roundw
          case rel => exact ⟨i + 1, by omega, by go_num, hbel⟩
          case measure => simp [intOf]; omega
    · go_wp2
      go_ret
      exact ⟨rfl, hbel⟩

set_option maxRecDepth 100000 in
set_option maxHeartbeats 8000000 in
theorem policyIdle_walk (v : Value) (L : List Sz) (per most n : Int) (w : World) (h : Zl w v L) (hn9 : n ≤ 9223372036854775807) :
    Calls Try.prog 4 #[v, .agg #[.int .i64 per, .int .i64 most], .int .i64 n] w fun e w' => e = .returned (.bool true) ∧ Below w.heap.size w w' := by
  obtain ⟨r, hr⟩ : ∃ r : Bool, r = true ↔ Z.Ready L := by
    by_cases hf : Z.Ready L
    · exact ⟨true, fun _ => hf, fun _ => rfl⟩
    · exact ⟨false, (fun h => by cases h), fun h => absurd h hf⟩
  obtain ⟨mb, hm⟩ : ∃ r : Bool, r = true ↔ Z.Pol per most := by
    by_cases hf : Z.Pol per most
    · exact ⟨true, fun _ => hf, fun _ => rfl⟩
    · exact ⟨false, (fun h => by cases h), fun h => absurd h hf⟩
  obtain ⟨nb, hnb⟩ : ∃ r : Bool, r = true ↔ 1 ≤ n := ⟨decide (1 ≤ n), by simp⟩
  have hR1 : RightP L (if (r && mb) = true then Z.prop true L (Z.tierG per.toNat most L) else []) := by
    split
    · rename_i hh
      obtain ⟨h1, h2⟩ := Bool.and_eq_true_iff.1 hh
      have := Z.right_pr (lg := false) (per := per.toNat) (hr.1 h1) (hm.1 h2).2.2
      rwa [Z.grps, if_neg (by simp)] at this
    · exact RightP.nil L
  have hR2 : RightP L (if (r && mb) = true then Z.prop true L (Z.runs per.toNat most L) else []) := by
    split
    · rename_i hh
      obtain ⟨h1, h2⟩ := Bool.and_eq_true_iff.1 hh
      have := Z.right_pr (lg := true) (per := per.toNat) (hr.1 h1) (hm.1 h2).2.2
      rwa [Z.grps, if_pos rfl] at this
    · exact RightP.nil L
  have hR3 : RightP L (if (r && nb) = true then Z.prop false L (Z.forceG n L) else []) := by
    split
    · rename_i hh
      obtain ⟨h1, h2⟩ := Bool.and_eq_true_iff.1 hh
      exact Z.right_force (hr.1 h1) (hnb.1 h2)
    · exact RightP.nil L
  have CT := fun w1 (hb : Below w.heap.size w w1) => tiered_any v L per most w1 (h.below hb) r mb hr hm
  have CLo := fun w1 (hb : Below w.heap.size w w1) => logs_any v L per most w1 (h.below hb) r mb hr hm
  have CF := fun w1 (hb : Below w.heap.size w w1) => force_any v L n w1 (h.below hb) hn9 r nb hr hnb
  obtain ⟨P1, hP1⟩ : ∃ P, (if (r && mb) = true then Z.prop true L (Z.tierG per.toNat most L) else []) = P := ⟨_, rfl⟩
  obtain ⟨P2, hP2⟩ : ∃ P, (if (r && mb) = true then Z.prop true L (Z.runs per.toNat most L) else []) = P := ⟨_, rfl⟩
  obtain ⟨P3, hP3⟩ : ∃ P, (if (r && nb) = true then Z.prop false L (Z.forceG n L) else []) = P := ⟨_, rfl⟩
  rw [hP1] at CT hR1
  rw [hP2] at CLo hR2
  rw [hP3] at CF hR3
  have CR := fun (w1 : World) (u : Value) (P : List (List Int)) (hb : Below w.heap.size w w1) (hu : Tl w1 u P) (hR : RightP L P) => right_any v u L P w1 (h.below hb) hu hR
  have hll9 : L.length ≤ 9223372036854775807 := by
    obtain ⟨a, cap, -, h1, h2, -⟩ := h.open
    omega
  obtain ⟨a, cap, rfl, -⟩ := h.open
  obtain ⟨W, hW⟩ : ∃ W, W = w.alloc (.cells #[.int .i64 per, .int .i64 most] 24) := ⟨_, rfl⟩
  have BW : Below w.heap.size w W := by rw [hW]; exact below_alloc _ _
  have b0 : W.cell? ⟨w.heap.size, 0, none⟩ = some (.int .i64 per) := by rw [hW]; exact box_cell (heap_alloc_new w _) rfl
  have b1 : W.cell? ⟨w.heap.size, 1, none⟩ = some (.int .i64 most) := by rw [hW]; exact box_cell (heap_alloc_new w _) rfl
  have HW := hide hW
  clear hr h hW hm hnb hP1 hP2 hP3
  go_enter Try.func4, Try.ntmps4
  go_wp2_with fail
  rw [← unhide HW]
  refine (awake12_any _).mono ?_
  rintro e w1 ⟨rfl, B1⟩
  have b0 := cell_keep b0 B1
  have b1 := cell_keep b1 B1
  have BB1 := below_trans' BW B1
  clear B1 BW
  by_cases h30 : 30 < L.length
  · have h30' : decide ((30 : Int) < (L.length : Int)) = true := by simp; omega
    clear CT CLo CF CR
    go_wp2
    go_ret
    exact ⟨rfl, BB1⟩
  have h30' : decide ((30 : Int) < (L.length : Int)) = false := by simp; omega
  go_wp2_with fail
  refine (CT _ BB1).mono ?_
  rintro e w2 ⟨v2, rfl, T2, B2⟩
  have b0 := cell_keep b0 B2
  have b1 := cell_keep b1 B2
  have BB2 := below_trans' BB1 B2
  have CR2 := CR _ _ P1 BB2 T2 hR1
  obtain ⟨a2, c2, rfl, -⟩ := T2.at
  clear CT B2 BB1 T2 hR1
  go_wp2_with fail
  refine CR2.mono ?_
  rintro e w3 ⟨rfl, B3⟩
  have b0 := cell_keep b0 B3
  have b1 := cell_keep b1 B3
  have BB3 := below_trans' BB2 B3
  clear CR2 B3 BB2
  go_wp2_with fail
  refine (CLo _ BB3).mono ?_
  rintro e w4 ⟨v4, rfl, T4, B4⟩
  have BB4 := below_trans' BB3 B4
  have CR4 := CR _ _ P2 BB4 T4 hR2
  obtain ⟨a4, c4, rfl, -⟩ := T4.at
  clear CLo B4 BB3 T4 hR2
  go_wp2_with fail
  refine CR4.mono ?_
  rintro e w5 ⟨rfl, B5⟩
  have BB5 := below_trans' BB4 B5
  clear CR4 B5 BB4
  go_wp2_with fail
  refine (CF _ BB5).mono ?_
  rintro e w6 ⟨v6, rfl, T6, B6⟩
  have BB6 := below_trans' BB5 B6
  have CR6 := CR _ _ P3 BB6 T6 hR3
  obtain ⟨a6, c6, rfl, -⟩ := T6.at
  clear CF B6 BB5 T6 hR3 CR
  go_wp2_with fail
  refine CR6.mono ?_
  rintro e w7 ⟨rfl, B7⟩
  have BB7 := below_trans' BB6 B7
  clear CR6 B7 BB6
  go_wp2
  go_ret
  exact ⟨rfl, BB7⟩
end Go.Proofs.Ytfniphaehggcgaa
