/-
  Texts put together: Key8, Lay8, Head8, Heads8, Heads9, Lay9, Look8, Words9, Look9, PlainM9, RSame9, Read8, SegA8.
-/
import Derived.Test.YtonhehhmnobciaaGreatK16
import Derived.Test.YtonhehhmnobciaaGreatK10
import Derived.DeepKeys4
import Derived.Test.YtonhehhmnobciaaGreatK06
import Derived.Test.YtonhehhmnobciaaGreatK15
import Derived.Test.YtonhehhmnobciaaGreatK01
import Derived.BigQuiet
import Derived.Deep.RegionLaw
/-
  The map from places (a document, a place in it) to words: its keys are structs ('Tel': what it tells).
-/
namespace Go.Proofs.YtonhehhmnobciaaGreat
set_option maxRecDepth 100000
open Go.RowKit Go.WideMaps Go.Maps

theorem laid8 : laidOutB Tryz.prog = true := by kernel_rfl
theorem row8 : (90 : TypeId) < Tryz.prog.types.size := of_decide_eq_true (by kernel_rfl)
theorem deep8 : Tryz.prog.keyTypeAt 2 90 = true := by kernel_rfl
theorem keyed8 : Keyed Tryz.prog 90 := Keyed.of_law (deep_law_laid laid8 (m := 2) (by omega) row8 deep8 (by rw [Tryz.underlying90]))

theorem lits3 (n : Nat) (d : Int) (hd : (Lit.int .i64 d).wf = true) : Tryz.prog.keyLits (n + 1) 3 [.int .i64 d] = some [.int .i64 d] := by
  unfold Program.keyLits
  rw [Tryz.underlying3]
  simp only [hd, and_self, if_true]
theorem lits8 (n : Nat) (d k : Int) (hd : (Lit.int .i64 d).wf = true) (hk : (Lit.int .i64 k).wf = true) : Tryz.prog.keyLits (n + 2) 90 [.int .i64 d, .int .i64 k] = some [.int .i64 d, .int .i64 k] := by
  have h2 : Tryz.prog.cellsOf 90 = 2 := by kernel_rfl
  have h3 : Tryz.prog.cellsOf 3 = 1 := by kernel_rfl
  unfold Program.keyLits
  rw [Tryz.underlying90]
  simp only [h2, List.length_cons, List.length_nil]
  rw [if_pos ⟨trivial, by simp⟩]
  simp only [List.mapM_cons, List.mapM_nil, h3, List.drop_zero, List.take_succ_cons, List.take_zero, List.drop_succ_cons, lits3 n d hd, lits3 n k hk]
  rfl
theorem key8 (d k : Int) (hd : (Lit.int .i64 d).wf = true) (hk : (Lit.int .i64 k).wf = true) : ∃ l, keyOf Tryz.prog 90 (.agg #[.int .i64 d, .int .i64 k]) = some l := by
  have h1 : Tryz.prog.keyType 90 = true := by kernel_rfl
  have h2 : Tryz.prog.cellsOf 90 = 2 := by kernel_rfl
  have hpos : 0 < Tryz.prog.types.size := Nat.lt_of_le_of_lt (Nat.zero_le _) row8
  have h4 : (Value.agg #[.int .i64 d, .int .i64 k]).formed Tryz.prog 90 = true := by simp [Value.formed, Tryz.underlying90, h2]
  have h5 := lits8 (Tryz.prog.types.size - 1) d k hd hk
  rw [show Tryz.prog.types.size - 1 + 2 = Tryz.prog.types.size + 1 by omega] at h5
  unfold keyOf
  rw [Tryz.underlying90, h1, h4]
  simp only [Bool.and_self, if_true]
  exact ⟨_, by rw [show (Value.agg #[.int .i64 d, .int .i64 k]).cells.toList = [.int .i64 d, .int .i64 k] from rfl, h5]; rfl⟩

abbrev KO (d k : Int) (l : Lit) : Prop := keyOf Tryz.prog 90 (.agg #[.int .i64 d, .int .i64 k]) = some l
/-- The map tells of the places in dn, and of no other one, which word stands there. -/
def Tel (M : DataW Unit) (dn : List S.Spot) : Prop :=
  IsMap M ∧ (∀ x ∈ dn, ∀ l, KO x.1.1 x.1.2 l → Maps.has M l = true ∧ M.atKey l (.lit (.int .i64 0)) = .lit (.int .i64 x.2)) ∧ (∀ d k l, KO d k l → Maps.has M l = true → ∃ i, ((d, k), i) ∈ dn) ∧ Maps.size M = dn.length

theorem Tel.start : Tel (.map []) [] := ⟨isMap_empty, (fun x hx => by cases hx), (fun d k l _ h => by cases h), rfl⟩
theorem Tel.free {M : DataW Unit} {dn : List S.Spot} (h : Tel M dn) {d k : Int} {l : Lit} (hl : KO d k l) (hf : ∀ i, ((d, k), i) ∉ dn) : Maps.has M l = false := by
  cases hb : Maps.has M l with
  | false => rfl
  | true =>
    obtain ⟨i, hi⟩ := h.2.2.1 d k l hl hb
    exact absurd hi (hf i)
theorem Tel.step {M : DataW Unit} {dn : List S.Spot} (h : Tel M dn) (ht : Tidy M) {d k : Int} {l : Lit} (hl : KO d k l) (hf : ∀ i, ((d, k), i) ∉ dn) (i : Nat) : Tel (M.put l (.lit (.int .i64 i))) (dn ++ [((d, k), i)]) := by
  have hkl := keyed8.key hl
  have hne : ∀ {d' k' : Int} {l' : Lit}, KO d' k' l' → (d', k') ≠ (d, k) → l' ≠ l := by
    intro d' k' l' h' hn e
    subst e
    have := keyed8.inj h' hl
    simp only [Value.agg.injEq, Array.mk.injEq, List.cons.injEq, Value.int.injEq, true_and, and_true] at this
    exact hn (by rw [this.1, this.2])
  have hfr := h.free hl hf
  refine ⟨h.1.put _ _, fun x hx l' hl' => ?_, fun d' k' l' hl' hh => ?_, ?_⟩
  · rcases List.mem_append.1 hx with hx | hx
    · have hn : (x.1.1, x.1.2) ≠ (d, k) := fun e => hf x.2 (by rw [← e]; exact hx)
      rw [has_put_other (hne hl' hn), atKey_put_other (hne hl' hn)]
      exact h.2.1 x hx l' hl'
    · simp only [List.mem_singleton] at hx
      subst hx
      have e : l' = l := by rw [KO] at hl hl'; simp only at hl'; rw [hl] at hl'; exact (Option.some.inj hl').symm
      subst e
      rw [has_put_same h.1 hkl, atKey_put_same h.1 hkl]
      exact ⟨rfl, rfl⟩
  · by_cases e : (d', k') = (d, k)
    · simp only [Prod.mk.injEq] at e
      obtain ⟨rfl, rfl⟩ := e
      exact ⟨i, by simp⟩
    · rw [has_put_other (hne hl' e)] at hh
      obtain ⟨i', hi'⟩ := h.2.2.1 d' k' l' hl' hh
      exact ⟨i', List.mem_append_left _ hi'⟩
  · rw [size_put ht, hfr, h.2.2.2]
    simp

/-- All that could be read can be read, as it was. -/
def Stays (w w' : World) : Prop := ∀ (a : Addr) (u : Value), w.cell? a = some u → w'.cell? a = some u
theorem Stays.refl (w : World) : Stays w w := fun _ _ h => h
theorem Stays.trans {w w1 w2 : World} (h : Stays w w1) (k : Stays w1 w2) : Stays w w2 := fun a u hu => k a u (h a u hu)
theorem Stays.of_below {w w' : World} (h : Below w.heap.size w w') : Stays w w' := fun _ _ hu => cell_keep hu h
theorem Stays.of_map {w w' : World} {b : Nat} {es : Array MapEntry} {cl : Nat} (hb : w.heap[b]? = some (.map es cl)) (h : w.grownBy w' (some b)) : Stays w w' := fun a u hu => by
  have hlt := World.block_lt_of_cell? w a hu
  have hne : some a.block ≠ some b := by
    intro e
    simp only [Option.some.injEq] at e
    simp [World.cell?, e, hb] at hu
  rw [World.cell?_of_block (h.block _ hlt hne)]
  exact hu
theorem Sl.stays {k : IntKind} {w w' : World} {v : Value} {zs : List Int} (h : Sl k w v zs) (hs : Stays w w') : Sl k w' v zs := by
  obtain ⟨a, cap, hv, hl, hm, hn, hc⟩ := h
  exact ⟨a, cap, hv, hl, hm, hn, fun x hx i hi => hs _ _ (hc x hx i hi)⟩
theorem Gl.stays {α : Type} {f : α → Value} {w w' : World} {v : Value} {l : List α} (h : Gl f w v l) (hs : Stays w w') : Gl f w' v l := by
  obtain ⟨a, cap, hv, hl, hm, hn, hc⟩ := h
  exact ⟨a, cap, hv, hl, hm, hn, fun x hx i y hi => hs _ _ (hc x hx i y hi)⟩
theorem Pl.stays {w w' : World} {v : Value} {L : List Pt} (h : Pl w v L) (hs : Stays w w') : Pl w' v L := by
  obtain ⟨a, cap, hv, hl, hm, hn, hc⟩ := h
  refine ⟨a, cap, hv, hl, hm, hn, fun x hx i p hi => ?_⟩
  obtain ⟨dv, h0, h1, h2⟩ := hc x hx i p hi
  exact ⟨dv, hs _ _ h0, hs _ _ h1, h2.stays hs⟩
theorem Kl.stays {α : Type} {f : α → List Value} {k : Nat} {w w' : World} {v : Value} {l : List α} (h : Kl f k w v l) (hs : Stays w w') : Kl f k w' v l := by
  obtain ⟨a, cap, hv, hl, hm, hn, hc⟩ := h
  exact ⟨a, cap, hv, hl, hm, hn, fun x hx i y hi j u hu => hs _ _ (hc x hx i y hi j u hu)⟩
theorem Ts.stays {w w' : World} {v : Value} {L : List Tm} (h : Ts w v L) (hs : Stays w w') : Ts w' v L := by
  obtain ⟨ps, h1, h2, h3⟩ := h
  exact ⟨ps, h1.stays hs, h2, fun p hp => (h3 p hp).stays hs⟩
theorem Sv.stays {w w' : World} {iv kv lv tv : Value} {s : Sg} (h : Sv w iv kv lv tv s) (hs : Stays w w') : Sv w' iv kv lv tv s := ⟨h.1.stays hs, h.2.1.stays hs, h.2.2.1.stays hs, h.2.2.2.stays hs⟩

abbrev Map8 (w : World) (b n : Nat) (M : DataW Unit) : Prop := w.ownsMap (H := Unit) Tryz.prog 90 (plainElem Tryz.prog 3) b n M

/-- '_, taken := stands[here]' at a place that is free. -/
theorem lookup_free {ops : Array Oper} {rest : List Oper} {o : Oper} {a : Act} {Q : Exit → Act → World → Prop} {w : World} {b n : Nat} {M : DataW Unit} {dn : List S.Spot} {d k : Int} (hg : o.guard = none) (m x : Operand) (hop : o.op = Op.lookup 65 m x true) (hm : a.eval m = .map (some b))
    (ho : Map8 w b n M) (hT : Tel M dn) (hd : (Lit.int .i64 d).wf = true) (hk : (Lit.int .i64 k).wf = true) (hf : ∀ i, ((d, k), i) ∉ dn) (hx : a.eval x = .agg #[.int .i64 d, .int .i64 k])
    (hK : ∀ c : Int, wpList Tryz.prog ops Q rest (a.put o.dst (.tuple #[.int .i64 c, .bool false])) w) : wpList Tryz.prog ops Q (o :: rest) a w := by
  obtain ⟨l, hl⟩ := key8 d k hd hk
  refine wpList_lookup_own_ok_int _ hg m x _ hop 90 3 .i64 keyed8 Tryz.underlying65 Tryz.underlying3 (zero3 _) b n M hm ho _ _ hx hl ?_
  intro c _ _
  rw [hT.free hl hf]
  exact hK c

/-- 'stands[here]' at a place that is taken. -/
theorem run_taken {w : World} {b n : Nat} {M : DataW Unit} {dn : List S.Spot} {d k : Int} {i : Nat} (ho : Map8 w b n M) (hT : Tel M dn) (hd : (Lit.int .i64 d).wf = true) (hk : (Lit.int .i64 k).wf = true) (hi : ((d, k), i) ∈ dn) :
    (Instr.lookup 65 (.map (some b)) (.agg #[.int .i64 d, .int .i64 k]) false).run Tryz.prog w = .ok (.int .i64 (i : Int)) w := by
  obtain ⟨l, hl⟩ := key8 d k hd hk
  obtain ⟨c, hc, hat, _⟩ := ho.lookup_int keyed8 Tryz.underlying65 Tryz.underlying3 (zero3 _) hl
  rw [(hT.2.1 _ hi l hl).2] at hat
  simp only [DataW.lit.injEq, Lit.int.injEq, true_and] at hat
  rw [hc, ← hat]
end Go.Proofs.YtonhehhmnobciaaGreat

/-
  The contract of lay: a word put down at all of its places, which are free.
-/
namespace Go.Proofs.YtonhehhmnobciaaGreat
set_option maxRecDepth 100000
open Go.RowKit Go.WideMaps Go.Maps

theorem grown_trans' {w w1 w2 : World} {b : Nat} (h : w.grownBy w1 (some b)) (k : w1.grownBy w2 (some b)) : w.grownBy w2 (some b) := h.trans k
theorem grown_all {w w1 : World} {b : Nat} (h : w.grownBy w1 (some b)) (o : Obj) : w.grownBy (w1.alloc o) (some b) := h.trans (World.grownBy_alloc _ _ _)
theorem map_block {w : World} {b n : Nat} {M : DataW Unit} (h : Map8 w b n M) : ∃ es cl, w.heap[b]? = some (.map es cl) := by
  obtain ⟨es, cl, h1, -⟩ := h
  exact ⟨es, cl, h1⟩

theorem map_split {α β : Type} (f : α → β) (z : List α) (j : Nat) (h : j < z.length) : z.map f = (z.take j).map f ++ f z[j] :: (z.drop (j + 1)).map f := by
  rw [← List.map_cons, ← List.map_append, ← List.drop_eq_getElem_cons h, List.take_append_drop]

theorem free_at {dn : List S.Spot} {L : List Pt} {i k j : Nat} {p : Pt} {x : Int} (hnd : ((dn ++ L.flatMap (S.sp i)).map (·.1)).Nodup) (hk : L[k]? = some p) (hj : p.a[j]? = some x) : ∀ i', ((p.d, x), i') ∉ dn ++ (L.take k).flatMap (S.sp i) ++ (p.a.take j).map (fun y => ((p.d, y), i)) := by
  intro i' hi'
  obtain ⟨hkl, rfl⟩ := List.getElem?_eq_some_iff.1 hk
  obtain ⟨hjl, rfl⟩ := List.getElem?_eq_some_iff.1 hj
  have e : dn ++ L.flatMap (S.sp i) = (dn ++ (L.take k).flatMap (S.sp i) ++ (L[k].a.take j).map (fun y => ((L[k].d, y), i))) ++ (((L[k].d, L[k].a[j]), i) :: ((L[k].a.drop (j + 1)).map (fun y => ((L[k].d, y), i)) ++ (L.drop (k + 1)).flatMap (S.sp i))) := by
    have e1 : L = L.take k ++ (L[k] :: L.drop (k + 1)) := by rw [← List.drop_eq_getElem_cons hkl, List.take_append_drop]
    have e2 : S.sp i L[k] = (L[k].a.take j).map (fun y => ((L[k].d, y), i)) ++ (((L[k].d, L[k].a[j]), i) :: (L[k].a.drop (j + 1)).map (fun y => ((L[k].d, y), i))) := by
      exact map_split _ _ _ hjl
    conv => lhs; rw [e1, List.flatMap_append, List.flatMap_cons, e2]
    simp [List.append_assoc]
  rw [e, List.map_append, List.nodup_append] at hnd
  exact hnd.2.2 (L[k].d, L[k].a[j]) (List.mem_map.2 ⟨_, hi', rfl⟩) (L[k].d, L[k].a[j]) (by simp) rfl

set_option maxRecDepth 100000 in
set_option maxHeartbeats 4000000 in
theorem lay_any (b : Nat) (lv : Value) (lens : List Int) (i : Nat) (pv : Value) (L : List Pt) (w : World) (M0 : DataW Unit) (dn : List S.Spot) (ho0 : Map8 w b dn.length M0) (hT0 : Tel M0 dn) (hl : Sl .i64 w lv lens) (hp : Pl w pv L) (hne : 0 < L.length) (hmay : Q.may L = true)
    (hnd : ((dn ++ L.flatMap (S.sp i)).map (·.1)).Nodup) (hin : ∀ p ∈ L, ∀ k ∈ p.a, ∃ d : Nat, p.d = d ∧ d < 64 ∧ 0 ≤ k ∧ k < 120 ∧ ∃ z, lens[d]? = some z ∧ k < z) (hbig : (dn ++ L.flatMap (S.sp i)).length ≤ 100000) (hi : i ≤ 1000) :
    Calls Tryz.prog 71 #[.map (some b), lv, .int .i64 (i : Int), pv] w fun e w' => e = .returned (.bool true) ∧ ∃ M', Map8 w' b (dn ++ L.flatMap (S.sp i)).length M' ∧ Tel M' (dn ++ L.flatMap (S.sp i)) ∧ w.grownBy w' (some b) := by
  obtain ⟨a, cap, rfl, hpl, hpm, hpa, hpo⟩ := hp.open
  obtain ⟨a2, cap2, rfl, hll, hlm, hla, hlo⟩ := hl.open
  have HT0 := hide hT0
  have HIN := hide hin
  have HND := hide hnd
  have CM := pmay_any _ _ _ hp
  rw [hmay] at CM
  have h0 : ((L.length : Int) == 0) = false := beq_eq_false_iff_ne.2 (by omega)
  clear hT0 hin hnd
  go_enter Tryz.func71, Tryz.ntmps71
  go_wp2_with (go_at_call 52; refine CM.mono ?_; rintro e w1 ⟨rfl, B1⟩)
  have M1 : Map8 w1 b dn.length M0 := map_keep ho0 (B1.block _ ho0.lt)
  have g1 : w.grownBy w1 (some b) := grown_below B1 _
  clear B1 CM hp hl
  go_loopw [26] (fun iv wr => ∃ (k : Nat) (M : DataW Unit) (dk : List S.Spot), k ≤ L.length ∧ iv = .int .i64 k ∧ Hid (dk = dn ++ (L.take k).flatMap (S.sp i)) ∧ Map8 wr b dk.length M ∧ Hid (Tel M dk) ∧ w.grownBy wr (some b)) (fun iv _ => L.length - (intOf iv).toNat)
  case atStart => exact ⟨0, M0, dn, Nat.zero_le _, rfl, by (show _ = _; simp), M1, HT0, g1⟩
  case round =>
    clear M1 g1
    obtain ⟨k, M, dk, hk, rfl, HD, hown, HT, hg⟩ := hrel
    have hSt := Stays.of_map (map_block ho0).choose_spec.choose_spec hg
    by_cases hlt : k < L.length
    · obtain ⟨bb, off, rfl, hbb, hc⟩ := hpo (by omega)
      obtain ⟨p, hx⟩ : ∃ p, L[k]? = some p := ⟨L[k], List.getElem?_eq_getElem hlt⟩
      obtain ⟨da, dc, c0, c1, S2⟩ := hc k p hx
      have d0 := hSt _ _ c0
      have d1 := hSt _ _ c1
      have HX := hide hx
      have hpb : wr.heap.size < (wr.alloc (.cells #[.int .i64 p.d, .slice da p.a.length dc] 95)).heap.size := by simp
      obtain ⟨sa, sc, hv', hsl, hsm, -, hoA⟩ := S2.open
      simp only [Value.slice.injEq, true_and] at hv'
      obtain ⟨rfl, rfl⟩ := hv'
      have MW := hown.alloc (.cells #[.int .i64 p.d, .slice da p.a.length dc] 95)
      have GW := grown_all hg (.cells #[.int .i64 p.d, .slice da p.a.length dc] 95)
      have zW : (wr.alloc (.cells #[.int .i64 p.d, .slice da p.a.length dc] 95)).cell? ⟨wr.heap.size, 0, none⟩ = some (.int .i64 p.d) := by simp
      have HPA : Hid (∀ x ∈ p.a, ∃ d : Nat, p.d = d ∧ d < 64 ∧ 0 ≤ x ∧ x < 120 ∧ ∃ z, lens[d]? = some z ∧ x < z) := unhide HIN p (List.mem_of_getElem? hx)
      rename World => w9
      clear hc c0 c1 hx hown hg
      go_wp2
      go_loopw [33] (fun jv wr => ∃ (j : Nat) (M : DataW Unit) (dj : List S.Spot), j ≤ p.a.length ∧ jv = .int .i64 j ∧ Hid (dj = dk ++ (p.a.take j).map (fun y => ((p.d, y), i))) ∧ Map8 wr b dj.length M ∧ Hid (Tel M dj) ∧ w.grownBy wr (some b) ∧ wr.cell? ⟨w9.heap.size, 0, none⟩ = some (.int .i64 p.d)) (fun jv _ => p.a.length - (intOf jv).toNat)
      case atStart => exact ⟨0, M, dk, Nat.zero_le _, rfl, by (show _ = _; simp), MW, HT, GW, zW⟩
      case round =>
        clear MW GW zW hSt d0 d1 HT
        obtain ⟨j, M2, dj, hj, rfl, HDJ, hown, HT, hg, zp⟩ := hrel
        have hSt := Stays.of_map (map_block ho0).choose_spec.choose_spec hg
        by_cases hlt2 : j < p.a.length
        · obtain ⟨b1, off1, rfl, hb1, hc1⟩ := hoA (by omega)
          obtain ⟨x, hx⟩ : ∃ x, p.a[j]? = some x := ⟨p.a[j], List.getElem?_eq_getElem hlt2⟩
          have e0 : wr.cell? ⟨b1, off1 + j, none⟩ = some (.int .i64 x) := by
            have := hSt _ _ (hc1 j hlt2)
            simpa [List.getD, hx] using this
          obtain ⟨d, hpd, hd64, hx0, hx1, z, hz, hxz⟩ := unhide HPA x (List.mem_of_getElem? hx)
          have hdl := (List.getElem?_eq_some_iff.1 hz).1
          obtain ⟨b2, off2, rfl, hb2, hc2⟩ := hlo (by omega)
          have e1 : wr.cell? ⟨b2, off2 + d, none⟩ = some (.int .i64 z) := by
            have := hSt _ _ (hc2 d hdl)
            simpa [List.getD, hz] using this
          have HF : Hid (∀ i', (((d : Int), x), i') ∉ dj) := by
            intro i' hi'
            rw [unhide HDJ, unhide HD, ← hpd] at hi'
            exact free_at (unhide HND) (unhide HX) hx i' hi'
          have HXJ := hide hx
          have HLT := hide hlt2
          have hwd : (Lit.int .i64 (d : Int)).wf = true := WalkArith.wf_i64 (by omega)
          have hwx : (Lit.int .i64 x).wf = true := by
            obtain ⟨xn, rfl⟩ := Int.eq_ofNat_of_zero_le hx0
            exact WalkArith.wf_i64 (by omega)
          rw [hpd] at zp
          have HPD := hide hpd
          have hdl' : (d : Int) < (lens.length : Int) := by omega
          have hbj : dj.length ≤ 100000 := by
            have e9 := unhide HDJ
            rw [unhide HD] at e9
            have e8 : dj.length ≤ (dn ++ L.flatMap (S.sp i)).length := by
              rw [e9]
              have hkl' := (List.getElem?_eq_some_iff.1 (unhide HX)).1
              have e1 : L.flatMap (S.sp i) = (L.take k).flatMap (S.sp i) ++ (S.sp i p ++ (L.drop (k + 1)).flatMap (S.sp i)) := by
                have : L = L.take k ++ (p :: L.drop (k + 1)) := by
                  rw [← (List.getElem?_eq_some_iff.1 (unhide HX)).2, ← List.drop_eq_getElem_cons hkl', List.take_append_drop]
                conv => lhs; rw [this]
                simp
              rw [e1]
              simp [S.sp]
              omega
            omega
          obtain ⟨l9, hl9⟩ := key8 (d : Int) x hwd hwx
          have hown' := hown.alloc (.cells #[.int .i64 (d : Int), .int .i64 x] 90)
          have HS9 := hide ((unhide HT).step (hown.tidy keyed8) hl9 (unhide HF) i)
          have zp' := cell_keep zp (below_alloc wr (.cells #[.int .i64 (d : Int), .int .i64 x] 90))
          have hg' := grown_all hg (.cells #[.int .i64 (d : Int), .int .i64 x] 90)
          have hzp : w9.heap.size < wr.heap.size := World.block_lt_of_cell? wr _ zp
          have hxz' : ¬ z ≤ x := by omega
          have hb2' : b2 < wr.heap.size := World.block_lt_of_cell? wr _ e1
          clear hc1 hc2 hx hz hown hpd
          go_wp2_with (first
            | (at_lookup; refine lookup_free rfl _ _ rfl rfl hown' (unhide HT) hwd hwx (unhide HF) rfl ?_; intro cc)
            | (at_mapUpdate; refine wpList_mapUpdate_own _ rfl _ _ _ 65 rfl 90 3 keyed8 Tryz.underlying65 _ b dj.length M2 rfl hown' (by unfold maxLen; omega) _ _ _ rfl rfl hl9 _ [] (plainElem_int Tryz.underlying3 (WalkArith.wf_i64 (by omega))) ?_))
          intro w1 hown1 hgrow1
          have zp1 := Stays.of_map (map_block hown').choose_spec.choose_spec hgrow1 _ _ zp'
          have hg1 := hg'.trans hgrow1
          clear hgrow1 zp' hg' hown' zp
          go_wp2
          go_roundw
          case rel =>
            refine ⟨j + 1, _, dj ++ [(((d : Int), x), i)], by have := unhide HLT; omega, by go_num, ?_, by simpa using hown1, unhide HS9, hg1, by rw [unhide HPD]; exact zp1⟩
            show _ = _
            rw [unhide HDJ, take_snoc8 (unhide HXJ), List.map_append, unhide HPD]
            simp
          case measure => (have := unhide HLT; simp [intOf]; omega)
        · have hjl : j = p.a.length := by omega
          go_wp2
          go_roundw
          case rel =>
            refine ⟨k + 1, M2, dj, by omega, by go_num, ?_, hown, HT, hg⟩
            show _ = _
            have e2 : p.a.take j = p.a := List.take_of_length_le (by omega)
            rw [unhide HDJ, e2, unhide HD, take_snoc8 (unhide HX)]
            simp [S.sp]
          case measure => simp [intOf]; omega
    · have e : dk = dn ++ L.flatMap (S.sp i) := by rw [unhide HD, List.take_of_length_le (by omega)]
      subst e
      go_wp2
      go_ret
      exact ⟨rfl, M, hown, unhide HT, hg⟩
end Go.Proofs.YtonhehhmnobciaaGreat

/-
  The contracts of head and wordsOf, and of mayHeads at a segment that may be.
-/
namespace Go.Proofs.YtonhehhmnobciaaGreat
set_option maxRecDepth 100000
open Go.RowKit

/-- s is the segment of the cards l, which may be. -/
def Valid (s : Sg) (l : List Cd) (so : Bool) : Prop := s = S.seg l ∧ S.Ok l so

abbrev segv (ia ka lna ta : Option Addr) (ic kc lnc tc : Nat) (s : Sg) (so : Bool) : Array Value := #[.slice ia s.ids.length ic, .slice ka s.keys.length kc, .slice lna s.lens.length lnc, .slice ta s.ts.length tc, .bool so]

theorem Sv.shape {w : World} {iv kv lv tv : Value} {s : Sg} (h : Sv w iv kv lv tv s) : ∃ ia ka lna ta ic kc lnc tc, iv = .slice ia s.ids.length ic ∧ kv = .slice ka s.keys.length kc ∧ lv = .slice lna s.lens.length lnc ∧ tv = .slice ta s.ts.length tc := by
  obtain ⟨ia, ic, h1, -⟩ := id h.1
  obtain ⟨ka, kc, h2, -⟩ := id h.2.1
  obtain ⟨lna, lnc, h3, -⟩ := id h.2.2.1
  obtain ⟨ta, tc, h4, -⟩ := h.2.2.2.open
  exact ⟨ia, ka, lna, ta, ic, kc, lnc, tc, h1, h2, h3, h4⟩

theorem set3 {w : World} {a : Addr} {u : Value} {b : Nat} (h : w.cell? a = some u) (hne : a.block ≠ b) (u0 u1 u2 : Value) : (((w.setCell ⟨b, 0, none⟩ u0).setCell ⟨b, 1, none⟩ u1).setCell ⟨b, 2, none⟩ u2).cell? a = some u := by
  have key : ∀ (w : World) (j : Nat) (v : Value), w.cell? a = some u → (w.setCell ⟨b, j, none⟩ v).cell? a = some u := fun w j v h => by
    rw [World.cell?_of_block (Below.heap_setCell w ⟨b, j, none⟩ v a.block hne)]
    exact h
  exact key _ _ _ (key _ _ _ (key _ _ _ h))
theorem set3d {w : World} {a : Addr} {u : Value} {b : Nat} (h : w.cell? a = some u) (hne : a.block ≠ b) (u0 u1 u2 : Value) : (((w.setCell ⟨b, 0, none⟩ u0).setCell ⟨b, 1, none⟩ u1).setCell ⟨b, 2, none⟩ u2).drew.cell? a = some u := set3 h hne u0 u1 u2
theorem set3_below {w w1 : World} {b : Nat} (h : Below w.heap.size w w1) (hb : w.heap.size ≤ b) (u0 u1 u2 : Value) : Below w.heap.size w (((w1.setCell ⟨b, 0, none⟩ u0).setCell ⟨b, 1, none⟩ u1).setCell ⟨b, 2, none⟩ u2) := ((h.setCell hb _).setCell hb _).setCell hb _

set_option maxRecDepth 100000 in
set_option maxHeartbeats 2000000 in
theorem head_any (ia ka lna ta : Option Addr) (ic kc lnc tc : Nat) (s : Sg) (so : Bool) (d : Nat) (dI : Int) (hdI : dI = d) (x : ByteArray) (k : Int) (w : World) (h : Sv w (.slice ia s.ids.length ic) (.slice ka s.keys.length kc) (.slice lna s.lens.length lnc) (.slice ta s.ts.length tc) s) (hx : s.ids[d]? = some x) (hk : s.keys[d]? = some k) :
    Calls Tryz.prog 72 #[.agg #[.slice ia s.ids.length ic, .slice ka s.keys.length kc, .slice lna s.lens.length lnc, .slice ta s.ts.length tc, .bool so], .int .i64 dI] w fun e w' => e = .returned (.agg #[.string x, .int .i64 k, .slice none 0 0]) ∧ Below w.heap.size w w' := by
  subst hdI
  have hd1 := (List.getElem?_eq_some_iff.1 hx).1
  have hd2 := (List.getElem?_eq_some_iff.1 hk).1
  obtain ⟨a', c', hv', hl1, hm1, -, ho1⟩ := h.1.open
  simp only [Value.slice.injEq, true_and] at hv'
  obtain ⟨rfl, rfl⟩ := hv'
  obtain ⟨b1, o1, rfl, hb1, hc1⟩ := ho1 (by omega)
  have e1 := hc1 d x hx
  obtain ⟨a', c', hv', hl2, hm2, -, ho2⟩ := h.2.1.open
  simp only [Value.slice.injEq, true_and] at hv'
  obtain ⟨rfl, rfl⟩ := hv'
  obtain ⟨b2, o2, rfl, hb2, hc2⟩ := ho2 (by omega)
  have e2 := hc2 d hd2
  rw [show s.keys.getD d 0 = k by simp [List.getD, hk]] at e2
  obtain ⟨W, hW⟩ : ∃ W, W = (w.alloc (.cells #[.slice (some ⟨b1, o1, none⟩) s.ids.length ic, .slice (some ⟨b2, o2, none⟩) s.keys.length kc, .slice lna s.lens.length lnc, .slice ta s.ts.length tc, .bool so] 29)).alloc (.cells #[.string ⟨#[]⟩, .int .i64 0, .slice none 0 0] 45) := ⟨_, rfl⟩
  have BW : Below w.heap.size w W := by rw [hW]; exact below_all (below_alloc _ _) _
  have y0 : W.cell? ⟨w.heap.size, 0, none⟩ = some (.slice (some ⟨b1, o1, none⟩) s.ids.length ic) := by rw [hW]; simp
  have y1 : W.cell? ⟨w.heap.size, 1, none⟩ = some (.slice (some ⟨b2, o2, none⟩) s.keys.length kc) := by rw [hW]; simp
  have r0 : W.cell? ⟨w.heap.size + 1, 0, none⟩ = some (.string ⟨#[]⟩) := by rw [hW]; simp
  have r1 : W.cell? ⟨w.heap.size + 1, 1, none⟩ = some (.int .i64 0) := by rw [hW]; simp
  have r2 : W.cell? ⟨w.heap.size + 1, 2, none⟩ = some (.slice none 0 0) := by rw [hW]; simp
  have n0 : W.frozen? ⟨w.heap.size + 1, 0, none⟩ = false := by rw [hW]; simp
  have n1 : W.frozen? ⟨w.heap.size + 1, 1, none⟩ = false := by rw [hW]; simp
  have n2 : W.frozen? ⟨w.heap.size + 1, 2, none⟩ = false := by rw [hW]; simp
  have E1 := cell_keep e1 BW
  have E2 := cell_keep e2 BW
  have ne1 : b1 ≠ w.heap.size + 1 := by omega
  have ne2 : b2 ≠ w.heap.size + 1 := by omega
  have q1 : ¬ w.heap.size + 1 = b1 := by omega
  have q2 : ¬ w.heap.size + 1 = b2 := by omega
  have p1 : (0 : Int) ≤ (d : Int) := by omega
  have p2 : (d : Int) < (s.ids.length : Int) := by omega
  have p3 : (d : Int) < (s.keys.length : Int) := by omega
  have HW := hide hW
  clear hW hc1 hc2 ho1 ho2 h hx hk e1 e2
  go_enter Tryz.func72, Tryz.ntmps72
  go_wp2_with fail
  rw [← unhide HW]
  go_region_held3 (fun w' => w'.cell? ⟨w.heap.size, 0, none⟩ = some (.slice (some ⟨b1, o1, none⟩) s.ids.length ic) ∧ w'.cell? ⟨w.heap.size, 1, none⟩ = some (.slice (some ⟨b2, o2, none⟩) s.keys.length kc) ∧ w'.cell? ⟨b1, o1 + d, none⟩ = some (.string x) ∧ w'.cell? ⟨b2, o2 + d, none⟩ = some (.int .i64 k))
    (first
      | go_keep
      | (go_split_ands; exact ⟨set3d y0 (by simp) _ _ _, set3d y1 (by simp) _ _ _, set3d E1 ne1 _ _ _, set3d E2 ne2 _ _ _⟩))
    (fail)
  go_wp2
  exact bodyPost_ret (v := .agg #[.string x, .int .i64 k, .slice none 0 0]) (by simp [results, Tryz.results72, go_sem, r0, r1, r2]) rfl ⟨rfl, (set3_below BW (by omega) _ _ _).drew⟩

set_option maxRecDepth 100000 in
set_option maxHeartbeats 2000000 in
theorem wordsOf_any (ia ka lna ta : Option Addr) (ic kc lnc tc : Nat) (s : Sg) (so : Bool) (w : World) (h : Sv w (.slice ia s.ids.length ic) (.slice ka s.keys.length kc) (.slice lna s.lens.length lnc) (.slice ta s.ts.length tc) s) (hl : s.ts.length ≤ 1000) :
    Calls Tryz.prog 70 #[.agg #[.slice ia s.ids.length ic, .slice ka s.keys.length kc, .slice lna s.lens.length lnc, .slice ta s.ts.length tc, .bool so]] w fun e w' => ∃ v', e = .returned v' ∧ Gl .string w' v' (s.ts.map (·.t)) ∧ Below w.heap.size w w' := by
  obtain ⟨i9, hi9, hz90, hz91, hz92⟩ := info_parts Tryz.infoS
  have HT := h.2.2.2
  go_enter Tryz.func70, Tryz.ntmps70
  go_wp2
  go_loopw [3, 9] (fun ov iv wr => ∃ (k : Nat) (pre : List ByteArray), k ≤ s.ts.length ∧ iv = .int .i64 k ∧ Hid (pre = (s.ts.take k).map (·.t)) ∧ pre.length ≤ k ∧ wr.ownsRow w.heap.size 9 1 ov pre.length (pre.map Value.string) ∧ Below w.heap.size w wr) (fun _ iv _ => s.ts.length - (intOf iv).toNat)
  case atStart => exact ⟨0, [], Nat.zero_le _, rfl, rfl, Nat.zero_le _, World.ownsRow_nil _ _ _ _, below_alloc _ _⟩
  case round =>
    obtain ⟨k, pre, hk, rfl, HP, hpl, hown, hbel⟩ := hrel
    by_cases hlt : k < s.ts.length
    · obtain ⟨a', c', hv', -, -, -, ho⟩ := (HT.below hbel).open
      simp only [Value.slice.injEq, true_and] at hv'
      obtain ⟨rfl, rfl⟩ := hv'
      obtain ⟨b, off, rfl, hb, hc⟩ := ho (by omega)
      obtain ⟨t, hx⟩ : ∃ t, s.ts[k]? = some t := ⟨s.ts[k], List.getElem?_eq_getElem hlt⟩
      obtain ⟨wa, wc, c0, c1, -⟩ := hc k t hx
      have HTS := hide (take_snoc8 hx)
      have O1 := hown.alloc (.cells #[.string t.t, .slice wa t.p.length wc] 57)
      have B1 := hbel.alloc hbel.size (.cells #[.string t.t, .slice wa t.p.length wc] 57)
      have hbs := hbel.size
      clear ho hc hx
      go_wp2_with (at_builtin; refine append_oneL (f := Value.string) rfl _ _ 25 rfl Tryz.underlying25 hi9 hz90 hz91 hz92 rfl (fun _ => rfl) (pre := pre) t.t rfl rfl (by simp) O1 (by simp; omega) (by omega) (by omega) ?_; intro g5 q5 w5 O5 g5' l5)
      have B5 := B1.grown g5' (by simp; omega) (fun j hj => (O1.lt j hj).1)
      clear g5' l5 O1 B1 hown
      go_roundw
      case rel =>
        refine ⟨k + 1, pre ++ [t.t], by omega, by go_num, ?_, by simp; omega, O5, B5⟩
        show _ = _
        rw [unhide HTS, List.map_append, ← unhide HP]; rfl
      case measure => simp [intOf]; omega
    · have hpre : pre = s.ts.map (·.t) := by rw [unhide HP, List.take_of_length_le (by omega)]
      have G := Gl.owned hown
      rw [hpre] at G
      clear HP
      go_wp2
      go_ret
      exact ⟨_, rfl, G, hbel⟩
end Go.Proofs.YtonhehhmnobciaaGreat

/-
  The contract of mayHeads, at a segment that may be.
-/
namespace Go.Proofs.YtonhehhmnobciaaGreat
set_option maxRecDepth 100000
open Go.RowKit

theorem Valid.lens {s : Sg} {l : List Cd} {so : Bool} (h : Valid s l so) : s.ids.length = l.length ∧ s.keys.length = l.length ∧ s.lens.length = l.length ∧ s.ts.length = (S.words l).length := by
  obtain ⟨rfl, -⟩ := h
  simp [S.seg]
theorem Valid.at {s : Sg} {l : List Cd} {so : Bool} (h : Valid s l so) {d : Nat} {c : Cd} (hc : l[d]? = some c) : s.ids[d]? = some c.id ∧ s.keys[d]? = some c.key ∧ s.lens[d]? = some (c.w.length : Int) := by
  obtain ⟨rfl, -⟩ := h
  simp [S.seg, hc]

theorem fits_head8 {c : Cd} (h : S.fits c = true) : S.head c.id c.key c.w.length = true := by
  rw [S.fits_head, Bool.and_eq_true] at h
  exact h.1

set_option maxRecDepth 100000 in
set_option maxHeartbeats 4000000 in
theorem mayHeads_any (ia ka lna ta : Option Addr) (ic kc lnc tc : Nat) (s : Sg) (so : Bool) (l : List Cd) (w : World) (h : Sv w (.slice ia s.ids.length ic) (.slice ka s.keys.length kc) (.slice lna s.lens.length lnc) (.slice ta s.ts.length tc) s) (hV : Valid s l so) :
    Calls Tryz.prog 69 #[.agg #[.slice ia s.ids.length ic, .slice ka s.keys.length kc, .slice lna s.lens.length lnc, .slice ta s.ts.length tc, .bool so]] w fun e w' => e = .returned (.bool true) ∧ Below w.heap.size w w' := by
  obtain ⟨n1, n2, n3, -⟩ := hV.lens
  have h64 := hV.2.len
  have q0 : ¬ (64 : Int) < (s.ids.length : Int) := by omega
  have q1 : ((s.keys.length : Int) != (s.ids.length : Int)) = false := by simp; omega
  have q2 : ((s.lens.length : Int) != (s.ids.length : Int)) = false := by simp; omega
  have hnd : decide s.ids.Nodup = true := by
    rw [hV.1]
    have := hV.2.unl
    unfold S.Unlike at this
    show decide (l.map (·.id)).Nodup = true
    rw [decide_eq_true_eq, List.nodup_iff_pairwise_ne, List.pairwise_map]
    exact this
  have hsz : ∀ x ∈ s.ids, x.size ≤ maxLen := by
    intro x hx
    rw [hV.1] at hx
    obtain ⟨c, hc, rfl⟩ := List.mem_map.1 hx
    have := (S.fits_w (hV.2.fit c hc)).2.2.2.1
    unfold maxLen
    omega
  obtain ⟨W, hW⟩ : ∃ W, W = w.alloc (.cells #[.slice ia s.ids.length ic, .slice ka s.keys.length kc, .slice lna s.lens.length lnc, .slice ta s.ts.length tc, .bool so] 29) := ⟨_, rfl⟩
  have BW : Below w.heap.size w W := by rw [hW]; exact below_alloc _ _
  have X0 : W.heap[w.heap.size]? = some (.cells #[.slice ia s.ids.length ic, .slice ka s.keys.length kc, .slice lna s.lens.length lnc, .slice ta s.ts.length tc, .bool so] 29 (0, 0)) := by rw [hW]; exact heap_alloc_new w _
  have HV := h.below BW
  have HW := hide hW
  clear hW
  have CU := unlike_b _ _ W HV.1 hsz true hnd
  have HVA := hide hV
  have N1 := hide n1
  have N2 := hide n2
  have N3 := hide n3
  have hn64 : s.ids.length ≤ 64 := by omega
  clear hV hnd hsz n1 n2 n3 h
  go_enter Tryz.func69, Tryz.ntmps69
  go_wp2_with (go_at_call 40; rw [← unhide HW]; refine CU.mono ?_; rintro e w1 ⟨rfl, B1⟩; have x0 := box_cell (box_below X0 B1) (j := 0) rfl)
  have X1 := box_below X0 B1
  have BB := below_trans' BW B1
  have HV1 := HV.below B1
  clear B1 X0 CU HV x0
  go_loopw [35] (fun iv wr => ∃ k : Nat, k ≤ s.ids.length ∧ iv = .int .i64 k ∧ Below w1.heap.size w1 wr) (fun iv _ => s.ids.length - (intOf iv).toNat)
  case atStart => exact ⟨0, Nat.zero_le _, rfl, Below.refl _ _⟩
  case round =>
    obtain ⟨k, hk, rfl, hbel⟩ := hrel
    by_cases hlt : k < s.ids.length
    · obtain ⟨c, hx⟩ : ∃ c, l[k]? = some c := ⟨l[k]'(by have := unhide N1; omega), List.getElem?_eq_getElem _⟩
      obtain ⟨a1, a2, a3⟩ := (unhide HVA).at hx
      have hfc := (unhide HVA).2.fit c (List.mem_of_getElem? hx)
      have HFH := hide (fits_head8 hfc)
      have XR := box_below X1 hbel
      have HVR := HV1.below hbel
      have BBR := below_trans' BB hbel
      obtain ⟨a', c', hv', -, -, -, ho1⟩ := HVR.1.open
      simp only [Value.slice.injEq, true_and] at hv'
      obtain ⟨rfl, rfl⟩ := hv'
      obtain ⟨b1, o1, rfl, hb1, hc1⟩ := ho1 (by omega)
      have e1 := hc1 k _ a1
      obtain ⟨a', c', hv', -, -, -, ho2⟩ := HVR.2.1.open
      simp only [Value.slice.injEq, true_and] at hv'
      obtain ⟨rfl, rfl⟩ := hv'
      obtain ⟨b2, o2, rfl, hb2, hc2⟩ := ho2 (by have := unhide N1; have := unhide N2; omega)
      have e2 := hc2 k (by have := unhide N1; have := unhide N2; omega)
      rw [show s.keys.getD k 0 = c.key by simp [List.getD, a2]] at e2
      obtain ⟨a', c', hv', -, -, -, ho3⟩ := HVR.2.2.1.open
      simp only [Value.slice.injEq, true_and] at hv'
      obtain ⟨rfl, rfl⟩ := hv'
      obtain ⟨b3, o3, rfl, hb3, hc3⟩ := ho3 (by have := unhide N1; have := unhide N3; omega)
      have e3 := hc3 k (by have := unhide N1; have := unhide N3; omega)
      rw [show s.lens.getD k 0 = (c.w.length : Int) by simp [List.getD, a3]] at e3
      have y0 := box_cell XR (j := 0) rfl
      have y1 := box_cell XR (j := 1) rfl
      have y2 := box_cell XR (j := 2) rfl
      have y4 := box_cell XR (j := 4) rfl
      have p2 : (k : Int) < (s.keys.length : Int) := by have := unhide N1; have := unhide N2; omega
      have p3 : (k : Int) < (s.lens.length : Int) := by have := unhide N1; have := unhide N3; omega
      have HX := hide hx
      have HA1 := hide a1
      have HA2 := hide a2
      have HXR := hide XR
      have HHVR := hide HVR
      clear hc1 hc2 hc3 ho1 ho2 ho3 hx a1 a2 a3 XR HVR
      go_wp2
      go_quiet ((go_at_call 37; refine Calls.quiet_of_same (mayHead_b _ _ _ _ _ (unhide HFH))))
      obtain ⟨W9, hW9⟩ : ∃ W9, W9 = wr.drewN nq := ⟨_, rfl⟩
      have B9 : Below w1.heap.size w1 W9 := by rw [hW9]; exact below_dr hbel nq
      have X9 : W9.heap[w.heap.size]? = some (.cells #[.slice (some ⟨b1, o1, none⟩) s.ids.length ic, .slice (some ⟨b2, o2, none⟩) s.keys.length kc, .slice (some ⟨b3, o3, none⟩) s.lens.length lnc, .slice ta s.ts.length tc, .bool so] 29 (0, 0)) := by rw [hW9]; exact unhide HXR
      have V9 : Sv W9 (.slice (some ⟨b1, o1, none⟩) s.ids.length ic) (.slice (some ⟨b2, o2, none⟩) s.keys.length kc) (.slice (some ⟨b3, o3, none⟩) s.lens.length lnc) (.slice ta s.ts.length tc) s := (unhide HHVR).below (by rw [hW9]; exact below_dr (Below.refl _ _) nq)
      rw [← hW9]
      clear hW9 e1 e2 e3 y0 y1 y2 y4 HXR HHVR hbel BBR
      cases so with
      | false =>
        have y4 := box_cell X9 (j := 4) rfl
        go_wp2
        go_quiet (fail)
        go_wp2
        go_roundw
        case rel => exact ⟨k + 1, by omega, by go_num, below_dr' B9 _⟩
        case measure => simp [intOf]; omega
      | true =>
        have y4 := box_cell X9 (j := 4) rfl
        rcases Nat.eq_zero_or_pos k with hk0 | hk0
        · subst hk0
          go_wp2
          go_quiet (fail)
          go_wp2
          go_roundw
          case rel => exact ⟨1, by omega, by go_num, below_dr' B9 _⟩
          case measure => simp [intOf]; omega
        · obtain ⟨m, rfl⟩ : ∃ m, k = m + 1 := ⟨k - 1, by omega⟩
          obtain ⟨c0, hx0⟩ : ∃ c, l[m]? = some c := ⟨l[m]'(by have := unhide N1; omega), List.getElem?_eq_getElem _⟩
          obtain ⟨z1, z2, -⟩ := (unhide HVA).at hx0
          have HBF : Hid (S.before ⟨c0.id, c0.key, []⟩ ⟨c.id, c.key, []⟩ = true) := by
            have hup := (unhide HVA).2.up rfl
            obtain ⟨i1, r1⟩ := List.getElem?_eq_some_iff.1 hx0
            obtain ⟨i2, r2⟩ := List.getElem?_eq_some_iff.1 (unhide HX)
            have := List.pairwise_iff_getElem.1 hup m (m + 1) i1 i2 (by omega)
            rw [r1, r2] at this
            exact this
          have g0 : ∀ w', Below W9.heap.size W9 w' → w'.cell? ⟨w.heap.size, 0, none⟩ = some (.slice (some ⟨b1, o1, none⟩) s.ids.length ic) := fun w' hw' => cell_keep (box_cell X9 (j := 0) rfl) hw'
          have g1 : ∀ w', Below W9.heap.size W9 w' → w'.cell? ⟨w.heap.size, 1, none⟩ = some (.slice (some ⟨b2, o2, none⟩) s.keys.length kc) := fun w' hw' => cell_keep (box_cell X9 (j := 1) rfl) hw'
          have g2 : ∀ w', Below W9.heap.size W9 w' → w'.cell? ⟨w.heap.size, 2, none⟩ = some (.slice (some ⟨b3, o3, none⟩) s.lens.length lnc) := fun w' hw' => cell_keep (box_cell X9 (j := 2) rfl) hw'
          have g3 : ∀ w', Below W9.heap.size W9 w' → w'.cell? ⟨w.heap.size, 3, none⟩ = some (.slice ta s.ts.length tc) := fun w' hw' => cell_keep (box_cell X9 (j := 3) rfl) hw'
          have g4 : ∀ w', Below W9.heap.size W9 w' → w'.cell? ⟨w.heap.size, 4, none⟩ = some (.bool true) := fun w' hw' => cell_keep (box_cell X9 (j := 4) rfl) hw'
          have hw0 : IntKind.i64.wrap (m : Int) = m := by simp [IntKind.wrap, IntKind.bits, IntKind.signed]; omega
          have hpos : (0 : Int) < (m : Int) + 1 := by omega
          have HZ1 := hide z1
          have HZ2 := hide z2
          clear z1 z2 hx0
          go_wp2
          refine region_below (by kernel_rfl) (by kernel_rfl) ?_
          repeat
            (first
              | go_big_quiet_skip
              | (go_big_quiet_want; go_big_quiet_op
                 first
                   | go_big_quiet_on
                   | (apply Exists.intro
                      refine ⟨fun w' hw' => ?_, ?_⟩
                      · first
                       | exact rfl
                       | (rw [g0 w' hw']; dsimp only [Result.andThen]; rw [g1 w' hw']; dsimp only [Result.andThen]; rw [g2 w' hw']; dsimp only [Result.andThen]; rw [g3 w' hw']; dsimp only [Result.andThen]; rw [g4 w' hw']; exact ⟨rfl, rfl⟩)
                       | (rw [g4 w' hw']; exact ⟨rfl, rfl⟩)
                       | (go_at_call_of 72 (Value.int IntKind.i64 (m : Int)); exact (head_any (some ⟨b1, o1, none⟩) (some ⟨b2, o2, none⟩) (some ⟨b3, o3, none⟩) ta ic kc lnc tc s true m _ rfl _ _ _ (V9.below hw') (unhide HZ1) (unhide HZ2)).mono fun e w'' ⟨h1, h2⟩ => ⟨h1, below_trans' hw' h2⟩)
                       | (go_at_call 72; exact (head_any (some ⟨b1, o1, none⟩) (some ⟨b2, o2, none⟩) (some ⟨b3, o3, none⟩) ta ic kc lnc tc s true (m + 1) ((m : Int) + 1) (by omega) _ _ _ (V9.below hw') (unhide HA1) (unhide HA2)).mono fun e w'' ⟨h1, h2⟩ => ⟨h1, below_trans' hw' h2⟩)
                       | (go_at_call 92; exact (before_b _ _ _ _ _ _ _ _ _ _ (unhide HBF)).mono fun e w'' ⟨h1, h2⟩ => ⟨h1, below_trans' hw' h2⟩)
                      go_big_quiet_on)))
          refine wpQuiet_nil ?_
          intro w9 hb9
          have B10 := below_trans' B9 hb9
          go_wp2
          go_roundw
          case rel => exact ⟨m + 1 + 1, by omega, by go_num, B10⟩
          case measure => simp [intOf]; omega
    · go_wp2
      go_ret
      exact ⟨rfl, below_trans' BB hbel⟩
end Go.Proofs.YtonhehhmnobciaaGreat

/-
  The contract of mayHeads, at any segment.
-/
namespace Go.Proofs.YtonhehhmnobciaaGreat
set_option maxRecDepth 100000
open Go.RowKit

/-- What mayHeads asks. -/
structure HeadsP (s : Sg) (so : Bool) : Prop where
  n64 : s.ids.length ≤ 64
  nk : s.keys.length = s.ids.length
  nl : s.lens.length = s.ids.length
  unl : s.ids.Nodup
  head : ∀ (d : Nat) (x : ByteArray) (k n : Int), s.ids[d]? = some x → s.keys[d]? = some k → s.lens[d]? = some n → S.head x k n = true
  up : so = true → ∀ (d : Nat) (x y : ByteArray) (k m : Int), s.ids[d]? = some x → s.keys[d]? = some k → s.ids[d + 1]? = some y → s.keys[d + 1]? = some m → S.before ⟨x, k, []⟩ ⟨y, m, []⟩ = true
def HeadsEnd (w : World) (s : Sg) (so : Bool) (e : Ending) (w' : World) : Prop := ∃ r : Bool, e = .returned (.bool r) ∧ (r = true ↔ HeadsP s so) ∧ Below w.heap.size w w'
theorem heads_no {w w' : World} {s : Sg} {so : Bool} (h : ¬ HeadsP s so) (hb : Below w.heap.size w w') : HeadsEnd w s so (.returned (.bool false)) w' := ⟨false, rfl, ⟨fun h => by (cases h), fun h9 => absurd h9 h⟩, hb⟩

set_option maxRecDepth 100000 in
set_option maxHeartbeats 8000000 in
theorem mayHeads_all (ia ka lna ta : Option Addr) (ic kc lnc tc : Nat) (s : Sg) (so : Bool) (w : World) (h : Sv w (.slice ia s.ids.length ic) (.slice ka s.keys.length kc) (.slice lna s.lens.length lnc) (.slice ta s.ts.length tc) s) (hsz : ∀ x ∈ s.ids, x.size ≤ maxLen) :
    Calls Tryz.prog 69 #[.agg #[.slice ia s.ids.length ic, .slice ka s.keys.length kc, .slice lna s.lens.length lnc, .slice ta s.ts.length tc, .bool so]] w (HeadsEnd w s so) := by
  obtain ⟨W, hW⟩ : ∃ W, W = w.alloc (.cells #[.slice ia s.ids.length ic, .slice ka s.keys.length kc, .slice lna s.lens.length lnc, .slice ta s.ts.length tc, .bool so] 29) := ⟨_, rfl⟩
  have BW : Below w.heap.size w W := by rw [hW]; exact below_alloc _ _
  have X0 : W.heap[w.heap.size]? = some (.cells #[.slice ia s.ids.length ic, .slice ka s.keys.length kc, .slice lna s.lens.length lnc, .slice ta s.ts.length tc, .bool so] 29 (0, 0)) := by rw [hW]; exact heap_alloc_new w _
  have HV := h.below BW
  have HW := hide hW
  clear hW
  by_cases h64 : 64 < s.ids.length
  · have q0 : (64 : Int) < (s.ids.length : Int) := by omega
    have HNO := hide (show ¬ HeadsP s so from fun h9 => by have := h9.n64; omega)
    clear HV h hsz
    go_enter Tryz.func69, Tryz.ntmps69
    go_wp2
    try rw [← unhide HW]
    go_ret
    exact heads_no (unhide HNO) (by first | exact BW | (rw [← unhide HW]; exact BW))
  have q0 : ¬ (64 : Int) < (s.ids.length : Int) := by omega
  by_cases hnk : s.keys.length = s.ids.length
  case neg =>
    have q1 : ((s.keys.length : Int) != (s.ids.length : Int)) = true := by simp; omega
    have HNO := hide (show ¬ HeadsP s so from fun h9 => hnk h9.nk)
    clear HV h hsz hnk
    go_enter Tryz.func69, Tryz.ntmps69
    go_wp2
    go_ret
    exact heads_no (unhide HNO) (by first | exact BW | (rw [← unhide HW]; exact BW))
  have q1 : ((s.keys.length : Int) != (s.ids.length : Int)) = false := by simp; omega
  by_cases hnl : s.lens.length = s.ids.length
  case neg =>
    have q2 : ((s.lens.length : Int) != (s.ids.length : Int)) = true := by simp; omega
    have HNO := hide (show ¬ HeadsP s so from fun h9 => hnl h9.nl)
    clear HV h hsz hnl hnk
    go_enter Tryz.func69, Tryz.ntmps69
    go_wp2
    go_ret
    exact heads_no (unhide HNO) (by first | exact BW | (rw [← unhide HW]; exact BW))
  have q2 : ((s.lens.length : Int) != (s.ids.length : Int)) = false := by simp; omega
  have hn64 : s.ids.length ≤ 64 := by omega
  have N2 := hide hnk
  have N3 := hide hnl
  by_cases hnd : s.ids.Nodup
  case neg =>
    have CU := unlike_b _ _ W HV.1 hsz false (decide_eq_false hnd)
    have HNO := hide (show ¬ HeadsP s so from fun h9 => hnd h9.unl)
    clear HV h hsz hnd hnk hnl
    go_enter Tryz.func69, Tryz.ntmps69
    go_wp2_with (go_at_call 40; rw [← unhide HW]; refine CU.mono ?_; rintro e w1 ⟨rfl, B1⟩)
    go_ret
    exact heads_no (unhide HNO) (below_trans' BW B1)
  have CU := unlike_b _ _ W HV.1 hsz true (decide_eq_true hnd)
  have HND := hide hnd
  clear hnd hsz hnk hnl h h64
  go_enter Tryz.func69, Tryz.ntmps69
  go_wp2_with (go_at_call 40; rw [← unhide HW]; refine CU.mono ?_; rintro e w1 ⟨rfl, B1⟩; have x0 := box_cell (box_below X0 B1) (j := 0) rfl)
  have X1 := box_below X0 B1
  have BB := below_trans' BW B1
  have HV1 := HV.below B1
  clear B1 X0 CU HV x0
  go_loopw [35] (fun iv wr => ∃ k : Nat, k ≤ s.ids.length ∧ iv = .int .i64 k ∧ Hid (∀ (d : Nat) (x : ByteArray) (kk n : Int), d < k → s.ids[d]? = some x → s.keys[d]? = some kk → s.lens[d]? = some n → S.head x kk n = true) ∧ Hid (so = true → ∀ (d : Nat) (x y : ByteArray) (kk m : Int), d + 1 < k → s.ids[d]? = some x → s.keys[d]? = some kk → s.ids[d + 1]? = some y → s.keys[d + 1]? = some m → S.before ⟨x, kk, []⟩ ⟨y, m, []⟩ = true) ∧ Below w1.heap.size w1 wr) (fun iv _ => s.ids.length - (intOf iv).toNat)
  case atStart => exact ⟨0, Nat.zero_le _, rfl, hide (fun d x kk n hd => by omega), hide (fun _ d x y kk m hd => by omega), Below.refl _ _⟩
  case round =>
    obtain ⟨k, hk, rfl, HH0, HU0, hbel⟩ := hrel
    by_cases hlt : k < s.ids.length
    · obtain ⟨cid, a1⟩ : ∃ x, s.ids[k]? = some x := ⟨s.ids[k], List.getElem?_eq_getElem hlt⟩
      obtain ⟨ckey, a2⟩ : ∃ x, s.keys[k]? = some x := ⟨s.keys[k]'(by have := unhide N2; omega), List.getElem?_eq_getElem _⟩
      obtain ⟨clen, a3⟩ : ∃ x, s.lens[k]? = some x := ⟨s.lens[k]'(by have := unhide N3; omega), List.getElem?_eq_getElem _⟩
      have XR := box_below X1 hbel
      have HVR := HV1.below hbel
      have BBR := below_trans' BB hbel
      obtain ⟨a', c', hv', -, -, -, ho1⟩ := HVR.1.open
      simp only [Value.slice.injEq, true_and] at hv'
      obtain ⟨rfl, rfl⟩ := hv'
      obtain ⟨b1, o1, rfl, hb1, hc1⟩ := ho1 (by omega)
      have e1 := hc1 k _ a1
      obtain ⟨a', c', hv', -, -, -, ho2⟩ := HVR.2.1.open
      simp only [Value.slice.injEq, true_and] at hv'
      obtain ⟨rfl, rfl⟩ := hv'
      obtain ⟨b2, o2, rfl, hb2, hc2⟩ := ho2 (by have := unhide N2; omega)
      have e2 := hc2 k (by have := unhide N2; omega)
      rw [show s.keys.getD k 0 = ckey by simp [List.getD, a2]] at e2
      obtain ⟨a', c', hv', -, -, -, ho3⟩ := HVR.2.2.1.open
      simp only [Value.slice.injEq, true_and] at hv'
      obtain ⟨rfl, rfl⟩ := hv'
      obtain ⟨b3, o3, rfl, hb3, hc3⟩ := ho3 (by have := unhide N3; omega)
      have e3 := hc3 k (by have := unhide N3; omega)
      rw [show s.lens.getD k 0 = clen by simp [List.getD, a3]] at e3
      have y0 := box_cell XR (j := 0) rfl
      have y1 := box_cell XR (j := 1) rfl
      have y2 := box_cell XR (j := 2) rfl
      have y4 := box_cell XR (j := 4) rfl
      have p2 : (k : Int) < (s.keys.length : Int) := by have := unhide N2; omega
      have p3 : (k : Int) < (s.lens.length : Int) := by have := unhide N3; omega
      have HA1 := hide a1
      have HA2 := hide a2
      have HA3 := hide a3
      have HXR := hide XR
      have HHVR := hide HVR
      clear hc1 hc2 hc3 ho1 ho2 ho3 a1 a2 a3 XR HVR
      cases hfh : S.head cid ckey clen with
      | false =>
        have HFH := hide hfh
        have HNO := hide (show ¬ HeadsP s so from fun h9 => by have := h9.head k _ _ _ (unhide HA1) (unhide HA2) (unhide HA3); rw [hfh] at this; cases this)
        have HB := hide BBR
        clear hfh BBR
        go_wp2
        go_quiet ((go_at_call 37; refine Calls.quiet_of_same (mayHead_b _ _ _ _ _ (unhide HFH))))
        go_wp2
        go_ret
        exact heads_no (unhide HNO) (below_dr' (unhide HB) _)
      | true =>
      have HFH := hide hfh
      have HH1 : Hid (∀ (d : Nat) (x : ByteArray) (kk n : Int), d < k + 1 → s.ids[d]? = some x → s.keys[d]? = some kk → s.lens[d]? = some n → S.head x kk n = true) := hide (fun d x kk n hd g1 g2 g3 => by
        by_cases e : d = k
        · subst e
          rw [unhide HA1] at g1
          rw [unhide HA2] at g2
          rw [unhide HA3] at g3
          cases g1; cases g2; cases g3
          exact unhide HFH
        · exact unhide HH0 d x kk n (by omega) g1 g2 g3)
      clear hfh
      go_wp2
      go_quiet ((go_at_call 37; refine Calls.quiet_of_same (mayHead_b _ _ _ _ _ (unhide HFH))))
      obtain ⟨W9, hW9⟩ : ∃ W9, W9 = wr.drewN nq := ⟨_, rfl⟩
      have B9 : Below w1.heap.size w1 W9 := by rw [hW9]; exact below_dr hbel nq
      have X9 : W9.heap[w.heap.size]? = some (.cells #[.slice (some ⟨b1, o1, none⟩) s.ids.length ic, .slice (some ⟨b2, o2, none⟩) s.keys.length kc, .slice (some ⟨b3, o3, none⟩) s.lens.length lnc, .slice ta s.ts.length tc, .bool so] 29 (0, 0)) := by rw [hW9]; exact unhide HXR
      have V9 : Sv W9 (.slice (some ⟨b1, o1, none⟩) s.ids.length ic) (.slice (some ⟨b2, o2, none⟩) s.keys.length kc) (.slice (some ⟨b3, o3, none⟩) s.lens.length lnc) (.slice ta s.ts.length tc) s := (unhide HHVR).below (by rw [hW9]; exact below_dr (Below.refl _ _) nq)
      rw [← hW9]
      clear hW9 e1 e2 e3 y0 y1 y2 y4 HXR HHVR hbel BBR
      cases so with
      | false =>
        have y4 := box_cell X9 (j := 4) rfl
        go_wp2
        go_quiet (fail)
        go_wp2
        go_roundw
        case rel => exact ⟨k + 1, by omega, by go_num, HH1, hide (fun h => by cases h), below_dr' B9 _⟩
        case measure => simp [intOf]; omega
      | true =>
        have y4 := box_cell X9 (j := 4) rfl
        rcases Nat.eq_zero_or_pos k with hk0 | hk0
        · subst hk0
          go_wp2
          go_quiet (fail)
          go_wp2
          go_roundw
          case rel => exact ⟨1, by omega, by go_num, HH1, hide (fun _ d x y kk m hd => by omega), below_dr' B9 _⟩
          case measure => simp [intOf]; omega
        · obtain ⟨m, rfl⟩ : ∃ m, k = m + 1 := ⟨k - 1, by omega⟩
          obtain ⟨c0id, z1⟩ : ∃ x, s.ids[m]? = some x := ⟨s.ids[m]'(by omega), List.getElem?_eq_getElem _⟩
          obtain ⟨c0key, z2⟩ : ∃ x, s.keys[m]? = some x := ⟨s.keys[m]'(by have := unhide N2; omega), List.getElem?_eq_getElem _⟩
          have g0 : ∀ w', Below W9.heap.size W9 w' → w'.cell? ⟨w.heap.size, 0, none⟩ = some (.slice (some ⟨b1, o1, none⟩) s.ids.length ic) := fun w' hw' => cell_keep (box_cell X9 (j := 0) rfl) hw'
          have g1 : ∀ w', Below W9.heap.size W9 w' → w'.cell? ⟨w.heap.size, 1, none⟩ = some (.slice (some ⟨b2, o2, none⟩) s.keys.length kc) := fun w' hw' => cell_keep (box_cell X9 (j := 1) rfl) hw'
          have g2 : ∀ w', Below W9.heap.size W9 w' → w'.cell? ⟨w.heap.size, 2, none⟩ = some (.slice (some ⟨b3, o3, none⟩) s.lens.length lnc) := fun w' hw' => cell_keep (box_cell X9 (j := 2) rfl) hw'
          have g3 : ∀ w', Below W9.heap.size W9 w' → w'.cell? ⟨w.heap.size, 3, none⟩ = some (.slice ta s.ts.length tc) := fun w' hw' => cell_keep (box_cell X9 (j := 3) rfl) hw'
          have g4 : ∀ w', Below W9.heap.size W9 w' → w'.cell? ⟨w.heap.size, 4, none⟩ = some (.bool true) := fun w' hw' => cell_keep (box_cell X9 (j := 4) rfl) hw'
          have hw0 : IntKind.i64.wrap (m : Int) = m := by simp [IntKind.wrap, IntKind.bits, IntKind.signed]; omega
          have hpos : (0 : Int) < (m : Int) + 1 := by omega
          have HZ1 := hide z1
          have HZ2 := hide z2
          clear z1 z2
          cases hbf : S.before ⟨c0id, c0key, []⟩ ⟨cid, ckey, []⟩ with
          | false =>
            have HBF : Hid (S.before ⟨c0id, c0key, []⟩ ⟨cid, ckey, []⟩ = false) := hide hbf
            have HNO := hide (show ¬ HeadsP s true from fun h9 => by have := h9.up rfl m _ _ _ _ (unhide HZ1) (unhide HZ2) (unhide HA1) (unhide HA2); rw [hbf] at this; cases this)
            clear hbf
            go_wp2
            refine region_below (by kernel_rfl) (by kernel_rfl) ?_
            repeat
              (first
                | go_big_quiet_skip
                | (go_big_quiet_want; go_big_quiet_op
                   first
                     | go_big_quiet_on
                     | (apply Exists.intro
                        refine ⟨fun w' hw' => ?_, ?_⟩
                        · first
                         | exact rfl
                         | (rw [g0 w' hw']; dsimp only [Result.andThen]; rw [g1 w' hw']; dsimp only [Result.andThen]; rw [g2 w' hw']; dsimp only [Result.andThen]; rw [g3 w' hw']; dsimp only [Result.andThen]; rw [g4 w' hw']; exact ⟨rfl, rfl⟩)
                         | (rw [g4 w' hw']; exact ⟨rfl, rfl⟩)
                         | (go_at_call_of 72 (Value.int IntKind.i64 (m : Int)); exact (head_any (some ⟨b1, o1, none⟩) (some ⟨b2, o2, none⟩) (some ⟨b3, o3, none⟩) ta ic kc lnc tc s true m _ rfl _ _ _ (V9.below hw') (unhide HZ1) (unhide HZ2)).mono fun e w'' ⟨h1, h2⟩ => ⟨h1, below_trans' hw' h2⟩)
                         | (go_at_call 72; exact (head_any (some ⟨b1, o1, none⟩) (some ⟨b2, o2, none⟩) (some ⟨b3, o3, none⟩) ta ic kc lnc tc s true (m + 1) ((m : Int) + 1) (by omega) _ _ _ (V9.below hw') (unhide HA1) (unhide HA2)).mono fun e w'' ⟨h1, h2⟩ => ⟨h1, below_trans' hw' h2⟩)
                         | (go_at_call 92; exact (before_b _ _ _ _ _ _ _ _ _ _ (unhide HBF)).mono fun e w'' ⟨h1, h2⟩ => ⟨h1, below_trans' hw' h2⟩)
                        go_big_quiet_on)))
            refine wpQuiet_nil ?_
            intro w9 hb9
            have B10 := below_trans' B9 hb9
            go_wp2
            go_ret
            exact heads_no (unhide HNO) (below_trans' BB B10)
          | true =>
          have HBF : Hid (S.before ⟨c0id, c0key, []⟩ ⟨cid, ckey, []⟩ = true) := hide hbf
          clear hbf
          go_wp2
          refine region_below (by kernel_rfl) (by kernel_rfl) ?_
          repeat
            (first
              | go_big_quiet_skip
              | (go_big_quiet_want; go_big_quiet_op
                 first
                   | go_big_quiet_on
                   | (apply Exists.intro
                      refine ⟨fun w' hw' => ?_, ?_⟩
                      · first
                       | exact rfl
                       | (rw [g0 w' hw']; dsimp only [Result.andThen]; rw [g1 w' hw']; dsimp only [Result.andThen]; rw [g2 w' hw']; dsimp only [Result.andThen]; rw [g3 w' hw']; dsimp only [Result.andThen]; rw [g4 w' hw']; exact ⟨rfl, rfl⟩)
                       | (rw [g4 w' hw']; exact ⟨rfl, rfl⟩)
                       | (go_at_call_of 72 (Value.int IntKind.i64 (m : Int)); exact (head_any (some ⟨b1, o1, none⟩) (some ⟨b2, o2, none⟩) (some ⟨b3, o3, none⟩) ta ic kc lnc tc s true m _ rfl _ _ _ (V9.below hw') (unhide HZ1) (unhide HZ2)).mono fun e w'' ⟨h1, h2⟩ => ⟨h1, below_trans' hw' h2⟩)
                       | (go_at_call 72; exact (head_any (some ⟨b1, o1, none⟩) (some ⟨b2, o2, none⟩) (some ⟨b3, o3, none⟩) ta ic kc lnc tc s true (m + 1) ((m : Int) + 1) (by omega) _ _ _ (V9.below hw') (unhide HA1) (unhide HA2)).mono fun e w'' ⟨h1, h2⟩ => ⟨h1, below_trans' hw' h2⟩)
                       | (go_at_call 92; exact (before_b _ _ _ _ _ _ _ _ _ _ (unhide HBF)).mono fun e w'' ⟨h1, h2⟩ => ⟨h1, below_trans' hw' h2⟩)
                      go_big_quiet_on)))
          refine wpQuiet_nil ?_
          intro w9 hb9
          have B10 := below_trans' B9 hb9
          go_wp2
          go_roundw
          case rel =>
            refine ⟨m + 1 + 1, by omega, by go_num, HH1, hide (fun h d x y kk m' hd i1 i2 i3 i4 => ?_), B10⟩
            by_cases e : d = m
            · subst e
              rw [unhide HZ1] at i1
              rw [unhide HZ2] at i2
              rw [unhide HA1] at i3
              rw [unhide HA2] at i4
              cases i1; cases i2; cases i3; cases i4
              exact unhide HBF
            · exact unhide HU0 h d x y kk m' (by omega) i1 i2 i3 i4
          case measure => simp [intOf]; omega
    · have HP : Hid (HeadsP s so) := hide ⟨hn64, unhide N2, unhide N3, unhide HND, fun d x k n g1 g2 g3 => unhide HH0 d x k n (by have := (List.getElem?_eq_some_iff.1 g1).1; omega) g1 g2 g3, fun h d x y k m g1 g2 g3 g4 => unhide HU0 h d x y k m (by have := (List.getElem?_eq_some_iff.1 g3).1; omega) g1 g2 g3 g4⟩
      go_wp2
      go_ret
      exact ⟨true, rfl, ⟨fun _ => unhide HP, fun _ => rfl⟩, below_trans' BB hbel⟩
end Go.Proofs.YtonhehhmnobciaaGreat

/-
  The contract of lay, at any postings: a word put down at all of its places, or not.
-/
namespace Go.Proofs.YtonhehhmnobciaaGreat
set_option maxRecDepth 100000
open Go.RowKit Go.WideMaps Go.Maps

/-- '_, taken := stands[here]' at a place that is taken. -/
theorem lookup_taken {ops : Array Oper} {rest : List Oper} {o : Oper} {a : Act} {Q : Exit → Act → World → Prop} {w : World} {b n : Nat} {M : DataW Unit} {dn : List S.Spot} {d k : Int} {i : Nat} (hg : o.guard = none) (m x : Operand) (hop : o.op = Op.lookup 65 m x true) (hm : a.eval m = .map (some b))
    (ho : Map8 w b n M) (hT : Tel M dn) (hd : (Lit.int .i64 d).wf = true) (hk : (Lit.int .i64 k).wf = true) (hf : ((d, k), i) ∈ dn) (hx : a.eval x = .agg #[.int .i64 d, .int .i64 k])
    (hK : ∀ c : Int, wpList Tryz.prog ops Q rest (a.put o.dst (.tuple #[.int .i64 c, .bool true])) w) : wpList Tryz.prog ops Q (o :: rest) a w := by
  obtain ⟨l, hl⟩ := key8 d k hd hk
  refine wpList_lookup_own_ok_int _ hg m x _ hop 90 3 .i64 keyed8 Tryz.underlying65 Tryz.underlying3 (zero3 _) b n M hm ho _ _ hx hl ?_
  intro c _ _
  rw [(hT.2.1 _ hf l hl).1]
  exact hK c

/-- What lay asks of the postings of a word. -/
def LayOK (L : List Pt) (i : Nat) (lens : List Int) (dn : List S.Spot) : Prop :=
  0 < L.length ∧ Q.may L = true ∧ ((dn ++ L.flatMap (S.sp i)).map (·.1)).Nodup ∧ ∀ p ∈ L, ∀ k ∈ p.a, ∃ d : Nat, p.d = d ∧ ∃ z, lens[d]? = some z ∧ k < z
def LayEnd (w : World) (b : Nat) (L : List Pt) (i : Nat) (lens : List Int) (dn : List S.Spot) (e : Ending) (w' : World) : Prop :=
  ∃ r : Bool, e = .returned (.bool r) ∧ (r = true ↔ LayOK L i lens dn) ∧ (r = true → ∃ M', Map8 w' b (dn ++ L.flatMap (S.sp i)).length M' ∧ Tel M' (dn ++ L.flatMap (S.sp i))) ∧ w.grownBy w' (some b)
theorem lay_no {w w' : World} {b : Nat} {L : List Pt} {i : Nat} {lens : List Int} {dn : List S.Spot} (h : ¬ LayOK L i lens dn) (hg : w.grownBy w' (some b)) : LayEnd w b L i lens dn (.returned (.bool false)) w' :=
  ⟨false, rfl, ⟨fun h => by (cases h), fun h9 => absurd h9 h⟩, (fun h => by cases h), hg⟩
theorem nodup_snoc {dj : List S.Spot} {d x : Int} {i : Nat} (h : (dj.map (·.1)).Nodup) (hf : ∀ i', ((d, x), i') ∉ dj) : ((dj ++ [((d, x), i)]).map (·.1)).Nodup := by
  rw [List.map_append, List.nodup_append]
  refine ⟨h, by simp, fun a ha b hb e => ?_⟩
  simp only [List.map_cons, List.map_nil, List.mem_singleton] at hb
  subst hb
  subst e
  obtain ⟨⟨y, i'⟩, hy, he⟩ := List.mem_map.1 ha
  simp only at he
  subst he
  exact hf i' hy
theorem Q.may_spots {L : List Pt} {i : Nat} (h : Q.may L = true) : ∀ k, ((L.take k).flatMap (S.sp i)).length ≤ k * 120
  | 0 => by simp
  | k + 1 => by
    have ih := Q.may_spots (i := i) h k
    cases hk : L[k]? with
    | none =>
      rw [List.getElem?_eq_none_iff] at hk
      rw [List.take_of_length_le (by omega)] at ih ⊢
      omega
    | some p =>
      rw [take_snoc8 hk, List.flatMap_append, List.length_append]
      have h2 := (Q.may_all (m := 0) h p (List.mem_of_getElem? hk)).2
      have := (Q.places_le h2).2
      have e : ([p].flatMap (S.sp i)).length = p.a.length := by simp [S.sp]
      omega

set_option maxRecDepth 100000 in
set_option maxHeartbeats 4000000 in
theorem lay_all (b : Nat) (lv : Value) (lens : List Int) (i : Nat) (pv : Value) (L : List Pt) (w : World) (M0 : DataW Unit) (dn : List S.Spot) (ho0 : Map8 w b dn.length M0) (hT0 : Tel M0 dn) (hl : Sl .i64 w lv lens) (hp : Pl w pv L) (hn0 : (dn.map (·.1)).Nodup) (hbig : dn.length ≤ 4000000) (hi : i ≤ 1000) :
    Calls Tryz.prog 71 #[.map (some b), lv, .int .i64 (i : Int), pv] w (LayEnd w b L i lens dn) := by
  obtain ⟨a, cap, rfl, hpl, hpm, hpa, hpo⟩ := hp.open
  obtain ⟨a2, cap2, rfl, hll, hlm, hla, hlo⟩ := hl.open
  have HT0 := hide hT0
  have HN0 := hide hn0
  have CM := pmay_any _ _ _ hp
  clear hT0 hn0
  by_cases hL0 : L.length = 0
  · have h0 : ((L.length : Int) == 0) = true := by rw [hL0]; rfl
    have HNO := hide (show ¬ LayOK L i lens dn from fun h9 => by have := h9.1; omega)
    clear CM
    go_enter Tryz.func71, Tryz.ntmps71
    go_wp2
    go_ret
    exact lay_no (unhide HNO) (grown_below (Below.refl _ _) _)
  have h0 : ((L.length : Int) == 0) = false := beq_eq_false_iff_ne.2 (by omega)
  cases hmay : Q.may L with
  | false =>
    rw [hmay] at CM
    have HNO := hide (show ¬ LayOK L i lens dn from fun h9 => by have := h9.2.1; rw [hmay] at this; cases this)
    clear hmay
    go_enter Tryz.func71, Tryz.ntmps71
    go_wp2_with (go_at_call 52; refine CM.mono ?_; rintro e w1 ⟨rfl, B1⟩)
    go_ret
    exact lay_no (unhide HNO) (grown_below B1 _)
  | true =>
  rw [hmay] at CM
  have hmk : ∀ p ∈ L, (0 ≤ p.d ∧ p.d < 64) ∧ ∀ y ∈ p.a, 0 ≤ y ∧ y < 120 := fun p hp => by
    obtain ⟨h1, h2⟩ := Q.may_all (m := 0) hmay p hp
    exact ⟨h1, fun y hy => Q.rise_le (Q.places_rise h2) y hy⟩
  have HIN := hide hmk
  have hl64 := Q.may_le hmay
  have HSP : Hid (∀ k, ((L.take k).flatMap (S.sp i)).length ≤ k * 120) := hide (Q.may_spots hmay)
  have HPA : Hid (∀ p ∈ L, p.a.length ≤ 120) := hide (fun p hp => (Q.places_le (Q.may_all (m := 0) hmay p hp).2).2)
  have HMY := hide hmay
  clear hmk hmay
  go_enter Tryz.func71, Tryz.ntmps71
  go_wp2_with (go_at_call 52; refine CM.mono ?_; rintro e w1 ⟨rfl, B1⟩)
  have M1 : Map8 w1 b dn.length M0 := map_keep ho0 (B1.block _ ho0.lt)
  have g1 : w.grownBy w1 (some b) := grown_below B1 _
  clear B1 CM hp hl
  go_loopw [26] (fun iv wr => ∃ (k : Nat) (M : DataW Unit) (dk : List S.Spot), k ≤ L.length ∧ iv = .int .i64 k ∧ Hid (dk = dn ++ (L.take k).flatMap (S.sp i)) ∧ Hid ((dk.map (·.1)).Nodup) ∧ Hid (∀ q ∈ L.take k, ∀ y ∈ q.a, ∃ d : Nat, q.d = d ∧ ∃ z, lens[d]? = some z ∧ y < z) ∧ Map8 wr b dk.length M ∧ Hid (Tel M dk) ∧ w.grownBy wr (some b)) (fun iv _ => L.length - (intOf iv).toNat)
  case atStart => exact ⟨0, M0, dn, Nat.zero_le _, rfl, by (show _ = _; simp), HN0, hide (fun q hq => by simp at hq), M1, HT0, g1⟩
  case round =>
    clear M1 g1
    obtain ⟨k, M, dk, hk, rfl, HD, HDN, HDI, hown, HT, hg⟩ := hrel
    have hSt := Stays.of_map (map_block ho0).choose_spec.choose_spec hg
    by_cases hlt : k < L.length
    · obtain ⟨bb, off, rfl, hbb, hc⟩ := hpo (by omega)
      obtain ⟨p, hx⟩ : ∃ p, L[k]? = some p := ⟨L[k], List.getElem?_eq_getElem hlt⟩
      obtain ⟨da, dc, c0, c1, S2⟩ := hc k p hx
      have d0 := hSt _ _ c0
      have d1 := hSt _ _ c1
      have HX := hide hx
      have hpb : wr.heap.size < (wr.alloc (.cells #[.int .i64 p.d, .slice da p.a.length dc] 95)).heap.size := by simp
      obtain ⟨sa, sc, hv', hsl, hsm, -, hoA⟩ := S2.open
      simp only [Value.slice.injEq, true_and] at hv'
      obtain ⟨rfl, rfl⟩ := hv'
      have MW := hown.alloc (.cells #[.int .i64 p.d, .slice da p.a.length dc] 95)
      have GW := grown_all hg (.cells #[.int .i64 p.d, .slice da p.a.length dc] 95)
      have zW : (wr.alloc (.cells #[.int .i64 p.d, .slice da p.a.length dc] 95)).cell? ⟨wr.heap.size, 0, none⟩ = some (.int .i64 p.d) := by simp
      have hpp := unhide HIN p (List.mem_of_getElem? hx)
      obtain ⟨d, hpd⟩ := Int.eq_ofNat_of_zero_le hpp.1.1
      have hd64 : d < 64 := by omega
      have HPX := hide hpp.2
      have hpl120 := unhide HPA p (List.mem_of_getElem? hx)
      have hdk : dk.length ≤ dn.length + k * 120 := by rw [unhide HD, List.length_append]; have := unhide HSP k; omega
      have HPD := hide hpd
      clear hpp
      rename World => w9
      clear hc c0 c1 hx hown hg hpd
      go_wp2
      go_loopw [33] (fun jv wr => ∃ (j : Nat) (M : DataW Unit) (dj : List S.Spot), j ≤ p.a.length ∧ jv = .int .i64 j ∧ Hid (dj = dk ++ (p.a.take j).map (fun y => ((p.d, y), i))) ∧ Hid ((dj.map (·.1)).Nodup) ∧ Hid (∀ y ∈ p.a.take j, ∃ z, lens[d]? = some z ∧ y < z) ∧ Map8 wr b dj.length M ∧ Hid (Tel M dj) ∧ w.grownBy wr (some b) ∧ wr.cell? ⟨w9.heap.size, 0, none⟩ = some (.int .i64 p.d)) (fun jv _ => p.a.length - (intOf jv).toNat)
      case atStart => exact ⟨0, M, dk, Nat.zero_le _, rfl, by (show _ = _; simp), HDN, hide (fun y hy => by simp at hy), MW, HT, GW, zW⟩
      case round =>
        clear MW GW zW hSt d0 d1 HT
        obtain ⟨j, M2, dj, hj, rfl, HDJ, HJN, HJI, hown, HT, hg, zp⟩ := hrel
        have hSt := Stays.of_map (map_block ho0).choose_spec.choose_spec hg
        by_cases hlt2 : j < p.a.length
        · obtain ⟨b1, off1, rfl, hb1, hc1⟩ := hoA (by omega)
          obtain ⟨x, hx⟩ : ∃ x, p.a[j]? = some x := ⟨p.a[j], List.getElem?_eq_getElem hlt2⟩
          have e0 : wr.cell? ⟨b1, off1 + j, none⟩ = some (.int .i64 x) := by
            have := hSt _ _ (hc1 j hlt2)
            simpa [List.getD, hx] using this
          obtain ⟨hx0, hx1⟩ := unhide HPX x (List.mem_of_getElem? hx)
          have HXJ := hide hx
          have HLT := hide hlt2
          have hwd : (Lit.int .i64 (d : Int)).wf = true := WalkArith.wf_i64 (by omega)
          have hwx : (Lit.int .i64 x).wf = true := by
            obtain ⟨xn, rfl⟩ := Int.eq_ofNat_of_zero_le hx0
            exact WalkArith.wf_i64 (by omega)
          rw [unhide HPD] at zp
          have hbj : dj.length ≤ 5000000 := by
            have e9 := congrArg List.length (unhide HDJ)
            rw [List.length_append, List.length_map] at e9
            have := List.length_take_le j p.a
            omega
          have hzp : w9.heap.size < wr.heap.size := World.block_lt_of_cell? wr _ zp
          have hown' := hown.alloc (.cells #[.int .i64 (d : Int), .int .i64 x] 90)
          have hg' := grown_all hg (.cells #[.int .i64 (d : Int), .int .i64 x] 90)
          clear hc1 hx
          by_cases htk : ∃ i', (((d : Int), x), i') ∈ dj
          · obtain ⟨i', hi'⟩ := htk
            have HNO := hide (show ¬ LayOK L i lens dn from fun h9 => by
              refine free_at h9.2.2.1 (unhide HX) (unhide HXJ) i' ?_
              rw [unhide HDJ, unhide HD] at hi'
              rw [unhide HPD]
              rw [unhide HPD] at hi'
              exact hi')
            have HI' := hide hi'
            clear hown hi'
            go_wp2_with (at_lookup; refine lookup_taken rfl _ _ rfl rfl hown' (unhide HT) hwd hwx (unhide HI') rfl ?_; intro cc)
            go_ret
            exact lay_no (unhide HNO) hg'
          have HF : Hid (∀ i', (((d : Int), x), i') ∉ dj) := hide (fun i' hi' => htk ⟨i', hi'⟩)
          by_cases hdl : d < lens.length
          · obtain ⟨z, hz⟩ : ∃ z, lens[d]? = some z := ⟨lens[d], List.getElem?_eq_getElem hdl⟩
            obtain ⟨b2, off2, rfl, hb2, hc2⟩ := hlo (by omega)
            have e1 : wr.cell? ⟨b2, off2 + d, none⟩ = some (.int .i64 z) := by
              have := hSt _ _ (hc2 d hdl)
              simpa [List.getD, hz] using this
            have hdl' : (d : Int) < (lens.length : Int) := by omega
            have hb2' : b2 < wr.heap.size := World.block_lt_of_cell? wr _ e1
            have HZ := hide hz
            clear hc2 hz
            by_cases hxz : x < z
            · have hxz' : ¬ z ≤ x := by omega
              have HS9K := hide (nodup_snoc (i := i) (unhide HJN) (unhide HF))
              obtain ⟨l9, hl9⟩ := key8 (d : Int) x hwd hwx
              have HS9 := hide ((unhide HT).step (hown.tidy keyed8) hl9 (unhide HF) i)
              have zp' := cell_keep zp (below_alloc wr (.cells #[.int .i64 (d : Int), .int .i64 x] 90))
              go_wp2_with (first
                | (at_lookup; refine lookup_free rfl _ _ rfl rfl hown' (unhide HT) hwd hwx (unhide HF) rfl ?_; intro cc)
                | (at_mapUpdate; refine wpList_mapUpdate_own _ rfl _ _ _ 65 rfl 90 3 keyed8 Tryz.underlying65 _ b dj.length M2 rfl hown' (by unfold maxLen; omega) _ _ _ rfl rfl hl9 _ [] (plainElem_int Tryz.underlying3 (WalkArith.wf_i64 (by omega))) ?_))
              intro w1 hown1 hgrow1
              have zp1 := Stays.of_map (map_block hown').choose_spec.choose_spec hgrow1 _ _ zp'
              have hg1 := hg'.trans hgrow1
              clear hgrow1 zp' hg' hown' zp
              go_wp2
              go_roundw
              case rel =>
                refine ⟨j + 1, _, dj ++ [(((d : Int), x), i)], by have := unhide HLT; omega, by go_num, ?_, HS9K, ?_, by simpa using hown1, unhide HS9, hg1, by rw [unhide HPD]; exact zp1⟩
                · show _ = _
                  rw [unhide HDJ, take_snoc8 (unhide HXJ), List.map_append, unhide HPD]
                  simp
                · intro y hy
                  rw [take_snoc8 (unhide HXJ)] at hy
                  rcases List.mem_append.1 hy with h9 | h9
                  · exact unhide HJI y h9
                  · simp only [List.mem_singleton] at h9
                    subst h9
                    exact ⟨z, unhide HZ, hxz⟩
              case measure => (have := unhide HLT; simp [intOf]; omega)
            · have hxz' : z ≤ x := by omega
              have HNO := hide (show ¬ LayOK L i lens dn from fun h9 => by
                obtain ⟨d', e1, z', e2, e3⟩ := h9.2.2.2 p (List.mem_of_getElem? (unhide HX)) x (List.mem_of_getElem? (unhide HXJ))
                rw [unhide HPD] at e1
                obtain rfl : d = d' := by omega
                rw [unhide HZ] at e2
                cases e2
                omega)
              clear hown
              go_wp2_with (at_lookup; refine lookup_free rfl _ _ rfl rfl hown' (unhide HT) hwd hwx (unhide HF) rfl ?_; intro cc)
              go_ret
              exact lay_no (unhide HNO) hg'
          · have hdl' : (lens.length : Int) ≤ (d : Int) := by omega
            have HNO := hide (show ¬ LayOK L i lens dn from fun h9 => by
              obtain ⟨d', e1, z', e2, e3⟩ := h9.2.2.2 p (List.mem_of_getElem? (unhide HX)) x (List.mem_of_getElem? (unhide HXJ))
              rw [unhide HPD] at e1
              have := (List.getElem?_eq_some_iff.1 e2).1
              omega)
            clear hown
            go_wp2_with (at_lookup; refine lookup_free rfl _ _ rfl rfl hown' (unhide HT) hwd hwx (unhide HF) rfl ?_; intro cc)
            go_ret
            exact lay_no (unhide HNO) hg'
        · have hjl : j = p.a.length := by omega
          go_wp2
          go_roundw
          case rel =>
            have e2 : p.a.take j = p.a := List.take_of_length_le (by omega)
            refine ⟨k + 1, M2, dj, by omega, by go_num, ?_, HJN, ?_, hown, HT, hg⟩
            · show _ = _
              rw [unhide HDJ, e2, unhide HD, take_snoc8 (unhide HX)]
              simp [S.sp]
            · intro q hq y hy
              rw [take_snoc8 (unhide HX)] at hq
              rcases List.mem_append.1 hq with h9 | h9
              · exact unhide HDI q h9 y hy
              · simp only [List.mem_singleton] at h9
                subst h9
                obtain ⟨z, hz, hyz⟩ := unhide HJI y (by rw [e2]; exact hy)
                exact ⟨d, unhide HPD, z, hz, hyz⟩
          case measure => simp [intOf]; omega
    · have e : dk = dn ++ L.flatMap (S.sp i) := by rw [unhide HD, List.take_of_length_le (by omega)]
      subst e
      go_wp2
      go_ret
      exact ⟨true, rfl, ⟨fun _ => ⟨by omega, unhide HMY, unhide HDN, fun p hp => unhide HDI p (by rw [List.take_of_length_le (by omega)]; exact hp)⟩, fun _ => rfl⟩, fun _ => ⟨M, hown, unhide HT⟩, hg⟩
end Go.Proofs.YtonhehhmnobciaaGreat

/-
  The contract of look, at a segment that may be: which of its words stands where.
-/
namespace Go.Proofs.YtonhehhmnobciaaGreat
set_option maxRecDepth 100000
open Go.RowKit Go.WideMaps Go.Maps

theorem run_makeMapN (n : Int) (w : World) : (Instr.makeMap 65 (some (.int .i64 n))).run Tryz.prog w = .ok (.map (some w.heap.size)) (w.alloc (.map #[] 0)) := by kernel_rfl

theorem Valid.words {s : Sg} {l : List Cd} {so : Bool} (h : Valid s l so) : s.ts.map (·.t) = S.words l := by
  obtain ⟨rfl, -⟩ := h
  simp [S.seg, S.term, Function.comp_def]
theorem Valid.spots {s : Sg} {l : List Cd} {so : Bool} (h : Valid s l so) : S.spots 0 s.ts = S.laid l := by
  obtain ⟨rfl, -⟩ := h
  rfl
theorem Valid.term {s : Sg} {l : List Cd} {so : Bool} (h : Valid s l so) {k : Nat} {t : Tm} (ht : s.ts[k]? = some t) : t = S.term l t.t ∧ (S.words l)[k]? = some t.t := by
  obtain ⟨rfl, -⟩ := h
  change ((S.words l).map (S.term l))[k]? = some t at ht
  rw [List.getElem?_map] at ht
  obtain ⟨x, hx, rfl⟩ := Option.map_eq_some_iff.1 ht
  exact ⟨rfl, hx⟩

/-- What lay asks of a word of a segment that may be. -/
theorem Valid.lay {s : Sg} {l : List Cd} {so : Bool} (h : Valid s l so) {k : Nat} {t : Tm} (ht : s.ts[k]? = some t) : 0 < t.p.length ∧ Q.may t.p = true ∧ ((S.spots 0 (s.ts.take k) ++ t.p.flatMap (S.sp k)).map (·.1)).Nodup ∧
    (∀ p ∈ t.p, ∀ y ∈ p.a, ∃ d : Nat, p.d = d ∧ d < 64 ∧ 0 ≤ y ∧ y < 120 ∧ ∃ z, s.lens[d]? = some z ∧ y < z) ∧ (S.spots 0 (s.ts.take k) ++ t.p.flatMap (S.sp k)).length ≤ 100000 := by
  obtain ⟨e1, e2⟩ := h.term ht
  have hl := h.2.len
  have hw : ∀ c ∈ l, c.w.length ≤ 120 := fun c hc => (S.fits_w (h.2.fit c hc)).1
  have hsub : ∃ rest, S.laid l = S.spots 0 (s.ts.take k) ++ t.p.flatMap (S.sp k) ++ rest := by
    rw [← S.spots_snoc ht, ← h.spots]
    refine ⟨S.spots (0 + (s.ts.take (k + 1)).length) (s.ts.drop (k + 1)), ?_⟩
    rw [← S.spots_app, List.take_append_drop]
  obtain ⟨rest, hrest⟩ := hsub
  have hp : t.p = (S.posts l t.t).map S.pt := by rw [e1]; rfl
  refine ⟨?_, ?_, ?_, ?_, ?_⟩
  · have := S.posts_some (List.mem_of_getElem? e2)
    rw [hp, List.length_map]
    exact List.length_pos_iff.2 this
  · rw [hp]
    exact S.posts_may hl hw _
  · have := S.laid_keys l
    rw [hrest, List.map_append, List.nodup_append] at this
    exact this.1
  · intro p hpm y hy
    rw [hp] at hpm
    obtain ⟨q, hq, rfl⟩ := List.mem_map.1 hpm
    obtain ⟨d, c, hc, rfl, -⟩ := S.mem_posts.1 hq
    obtain ⟨j, rfl, hj⟩ := S.mem_places.1 hy
    have hd := (List.getElem?_eq_some_iff.1 hc).1
    have hjl := (List.getElem?_eq_some_iff.1 hj).1
    have := hw c (List.mem_of_getElem? hc)
    exact ⟨d, rfl, by omega, by omega, by omega, _, (h.at hc).2.2, by omega⟩
  · have h1 := S.laid_len l
    have h2 := S.total_le hw
    rw [hrest] at h1
    simp only [List.length_append] at h1 ⊢
    omega

theorem sum_step {l : List Int} {k : Nat} {x : Int} (h : l[k]? = some x) : (l.take (k + 1)).sum = (l.take k).sum + x := by
  rw [take_snoc8 h, List.sum_append]
  simp
theorem sum_total (l : List Cd) : (l.map (fun c => (c.w.length : Int))).sum = (S.total l : Int) := by
  unfold S.total
  induction l with
  | nil => rfl
  | cons c l ih => simp only [List.map_cons, List.sum_cons, ih]; omega

set_option maxRecDepth 100000 in
set_option maxHeartbeats 4000000 in
theorem look_any (ia ka lna ta : Option Addr) (ic kc lnc tc : Nat) (s : Sg) (so : Bool) (l : List Cd) (w : World) (h : Sv w (.slice ia s.ids.length ic) (.slice ka s.keys.length kc) (.slice lna s.lens.length lnc) (.slice ta s.ts.length tc) s) (hV : Valid s l so) :
    Calls Tryz.prog 30 #[.agg #[.slice ia s.ids.length ic, .slice ka s.keys.length kc, .slice lna s.lens.length lnc, .slice ta s.ts.length tc, .bool so]] w fun e w' => ∃ b M, e = .returned (.tuple #[.map (some b), .bool true]) ∧ Map8 w' b (S.laid l).length M ∧ Tel M (S.laid l) ∧ Below w.heap.size w w' := by
  obtain ⟨n1, n2, n3, n4⟩ := hV.lens
  have h64 := hV.2.len
  have h200 := hV.2.few
  have hW120 : ∀ c ∈ l, c.w.length ≤ 120 := fun c hc => (S.fits_w (hV.2.fit c hc)).1
  have hmm := fun n w => run_makeMapN n w
  obtain ⟨W, hW⟩ : ∃ W, W = w.alloc (.cells #[.slice ia s.ids.length ic, .slice ka s.keys.length kc, .slice lna s.lens.length lnc, .slice ta s.ts.length tc, .bool so] 29) := ⟨_, rfl⟩
  have BW : Below w.heap.size w W := by rw [hW]; exact below_alloc _ _
  have X0 : W.heap[w.heap.size]? = some (.cells #[.slice ia s.ids.length ic, .slice ka s.keys.length kc, .slice lna s.lens.length lnc, .slice ta s.ts.length tc, .bool so] 29 (0, 0)) := by rw [hW]; exact heap_alloc_new w _
  have HV := h.below BW
  have HW := hide hW
  clear hW
  have CH := mayHeads_any ia ka lna ta ic kc lnc tc s so l W HV hV
  have HVA := hide hV
  have HMAY := hide hV.2.may
  have hwd := hide hV.words
  have hsum : s.lens.sum = (S.total l : Int) := by rw [hV.1]; exact sum_total l
  have HSUM := hide hsum
  have htot := S.total_le hW120
  have hln : s.lens.length ≤ 64 := by omega
  have htn : s.ts.length ≤ 200 := by omega
  clear hV h hsum n1 n2 n3 n4
  go_enter Tryz.func30, Tryz.ntmps30
  go_wp2_with fail
  rw [← unhide HW]
  refine CH.mono ?_
  rintro e w1 ⟨rfl, B1⟩
  have X1 := box_below X0 B1
  have BB := below_trans' BW B1
  have HV1 := HV.below B1
  have x0 := box_cell X1 (j := 0) rfl
  have x1 := box_cell X1 (j := 1) rfl
  have x2 := box_cell X1 (j := 2) rfl
  have x3 := box_cell X1 (j := 3) rfl
  have x4 := box_cell X1 (j := 4) rfl
  clear B1 X0 CH HV
  go_wp2_with fail
  refine (wordsOf_any ia ka lna ta ic kc lnc tc s so _ HV1 (by omega)).mono ?_
  rintro e w2 ⟨v2, rfl, G2, B2⟩
  rw [unhide hwd] at G2
  have X2 := box_below X1 B2
  have BB2 := below_trans' BB B2
  have HV2 := HV1.below B2
  clear B2 X1 HV1 BB x0 x1 x2 x3 x4
  have x2 := box_cell X2 (j := 2) rfl
  have x3 := box_cell X2 (j := 3) rfl
  go_wp2_with (go_at_call 43; refine (may_any _ _ _ G2 _ (unhide HMAY)).mono ?_; rintro e w3 ⟨rfl, rfl⟩)
  obtain ⟨a', c', hv', -, -, -, hoL⟩ := HV2.2.2.1.open
  simp only [Value.slice.injEq, true_and] at hv'
  obtain ⟨rfl, rfl⟩ := hv'
  go_loop [4, 22] (fun mv iv => ∃ (k : Nat) (m : Int), k ≤ s.lens.length ∧ iv = .int .i64 k ∧ mv = .int .i64 m ∧ Hid (m = (s.lens.take k).sum) ∧ 0 ≤ m ∧ m ≤ (k : Int) * 120) (fun _ iv => s.lens.length - (intOf iv).toNat)
  case atStart => exact ⟨0, 0, Nat.zero_le _, rfl, rfl, rfl, by omega, by omega⟩
  case round =>
    obtain ⟨k, m, hk, rfl, rfl, HM, hm0, hm1⟩ := hrel
    by_cases hlt : k < s.lens.length
    · obtain ⟨b, off, rfl, hb, hc⟩ := hoL (by omega)
      obtain ⟨c, hx⟩ : ∃ c, l[k]? = some c := ⟨l[k]'(by have := (unhide HVA).lens; omega), List.getElem?_eq_getElem _⟩
      obtain ⟨-, -, a3⟩ := (unhide HVA).at hx
      have e1 := hc k hlt
      rw [show s.lens.getD k 0 = (c.w.length : Int) by simp [List.getD, a3]] at e1
      have hcl := hW120 c (List.mem_of_getElem? hx)
      have HST := hide (sum_step a3)
      clear hc hx a3
      go_wp2
      go_round
      case rel => exact ⟨k + 1, m + (c.w.length : Int), by omega, by go_num, by go_num, by (show _ = _; rw [unhide HST, unhide HM]), by omega, by omega⟩
      case measure => simp [intOf]; omega
    · have hm : m = (S.total l : Int) := by rw [unhide HM, List.take_of_length_le (by omega)]; exact unhide HSUM
      have HMT := hide hm
      have mk := hmm m
      have HTM := HV2.2.2.2
      have HLN := HV2.2.2.1
      have hZ3 : w.heap.size < w3.heap.size := (Array.getElem?_eq_some_iff.1 X2).1
      have m0 : Map8 (w3.alloc (.map #[] 0)) w3.heap.size 0 (.map []) := World.ownsMap_made _ _ _ _
      have b0 : Below w3.heap.size w3 (w3.alloc (.map #[] 0)) := below_alloc _ _
      clear hm HM hmm
      go_wp2
      go_loopw [35] (fun iv wr => ∃ (j : Nat) (M : DataW Unit) (dj : List S.Spot), j ≤ s.ts.length ∧ iv = .int .i64 j ∧ Hid (dj = S.spots 0 (s.ts.take j)) ∧ Map8 wr w3.heap.size dj.length M ∧ Hid (Tel M dj) ∧ Below w3.heap.size w3 wr) (fun iv _ => s.ts.length - (intOf iv).toNat)
      case atStart => exact ⟨0, _, [], Nat.zero_le _, rfl, rfl, m0, Tel.start, b0⟩
      case round =>
        clear m0 b0
        obtain ⟨j, M, dj, hj, rfl, HDJ, hown, HT, hbel⟩ := hrel
        have HTR := HTM.below hbel
        have HLR := HLN.below hbel
        have XR := (hbel.block _ hZ3).trans X2
        have hw3r := hbel.size
        by_cases hlt2 : j < s.ts.length
        · obtain ⟨a', c', hv', -, -, -, hoT⟩ := HTR.open
          simp only [Value.slice.injEq, true_and] at hv'
          obtain ⟨rfl, rfl⟩ := hv'
          obtain ⟨b, off, rfl, hb, hc⟩ := hoT (by omega)
          obtain ⟨t, hx⟩ : ∃ t, s.ts[j]? = some t := ⟨s.ts[j], List.getElem?_eq_getElem hlt2⟩
          obtain ⟨pa, pc, c0, c1, P2⟩ := hc j t hx
          obtain ⟨l1, l2, l3, l4, l5⟩ := (unhide HVA).lay hx
          rw [← unhide HDJ] at l3 l5
          have BT := below_alloc wr (.cells #[.string t.t, .slice pa t.p.length pc] 57)
          have CL := lay_any w3.heap.size _ s.lens j _ t.p _ M dj (hown.alloc (.cells #[.string t.t, .slice pa t.p.length pc] 57)) (unhide HT) (HLR.below BT) (P2.below BT) l1 l2 l3 l4 l5 (by omega)
          have HSN := hide (S.spots_snoc hx)
          have x2 := box_cell XR (j := 2) rfl
          have hzr : w.heap.size < wr.heap.size := by omega
          have hbel1 := hbel.alloc hbel.size (.cells #[.string t.t, .slice pa t.p.length pc] 57)
          clear hc hx P2 l1 l2 l3 l4 l5 HTR HLR XR HT
          go_wp2_with (go_at_call 71; refine CL.mono ?_; rintro e w4 ⟨rfl, M4, O4, T4, g4⟩)
          have B4 := hbel1.grown g4 (by simp; omega) (fun i hi => by cases hi; exact Nat.le_refl _)
          have HT4 := hide T4
          clear g4 T4 CL hown hbel hbel1
          go_roundw
          case rel => exact ⟨j + 1, M4, dj ++ t.p.flatMap (S.sp j), by omega, by go_num, by (show _ = _; rw [unhide HSN, unhide HDJ]), O4, unhide HT4, B4⟩
          case measure => simp [intOf]; omega
        · have e : dj = S.laid l := by rw [unhide HDJ, List.take_of_length_le (by omega)]; exact (unhide HVA).spots
          subst e
          have hsz : ((Maps.size M : Nat) : Int) = m := by rw [(unhide HT).2.2.2, S.laid_len, unhide HMT]
          have hq : (((Maps.size M : Nat) : Int) == m) = true := by simp [hsz]
          have HSZ := hide hsz
          clear hsz HTR HLR XR
          go_wp2_with (at_len; refine wpList_len_own _ rfl _ 65 rfl 90 3 Tryz.underlying65 _ w3.heap.size (S.laid l).length M rfl hown ?_)
          go_ret2
          exact ⟨_, M, rfl, hown, unhide HT, below_trans' BB2 hbel⟩
end Go.Proofs.YtonhehhmnobciaaGreat

/-
  The contract of wordsOf, at any segment that has room in memory.
-/
namespace Go.Proofs.YtonhehhmnobciaaGreat
set_option maxRecDepth 100000
open Go.RowKit

set_option maxRecDepth 100000 in
set_option maxHeartbeats 2000000 in
theorem wordsOf9_any (ia ka lna ta : Option Addr) (ic kc lnc tc : Nat) (s : Sg) (so : Bool) (w : World) (h : Sv w (.slice ia s.ids.length ic) (.slice ka s.keys.length kc) (.slice lna s.lens.length lnc) (.slice ta s.ts.length tc) s) (hl : s.ts.length ≤ 3518437208780) :
    Calls Tryz.prog 70 #[.agg #[.slice ia s.ids.length ic, .slice ka s.keys.length kc, .slice lna s.lens.length lnc, .slice ta s.ts.length tc, .bool so]] w fun e w' => ∃ v', e = .returned v' ∧ Gl .string w' v' (s.ts.map (·.t)) ∧ Below w.heap.size w w' := by
  obtain ⟨i9, hi9, hz90, hz91, hz92⟩ := info_parts Tryz.infoS
  have HT := h.2.2.2
  go_enter Tryz.func70, Tryz.ntmps70
  go_wp2
  go_loopw [3, 9] (fun ov iv wr => ∃ (k : Nat) (pre : List ByteArray), k ≤ s.ts.length ∧ iv = .int .i64 k ∧ Hid (pre = (s.ts.take k).map (·.t)) ∧ pre.length ≤ k ∧ wr.ownsRow w.heap.size 9 1 ov pre.length (pre.map Value.string) ∧ Below w.heap.size w wr) (fun _ iv _ => s.ts.length - (intOf iv).toNat)
  case atStart => exact ⟨0, [], Nat.zero_le _, rfl, rfl, Nat.zero_le _, World.ownsRow_nil _ _ _ _, below_alloc _ _⟩
  case round =>
    obtain ⟨k, pre, hk, rfl, HP, hpl, hown, hbel⟩ := hrel
    by_cases hlt : k < s.ts.length
    · obtain ⟨a', c', hv', -, -, -, ho⟩ := (HT.below hbel).open
      simp only [Value.slice.injEq, true_and] at hv'
      obtain ⟨rfl, rfl⟩ := hv'
      obtain ⟨b, off, rfl, hb, hc⟩ := ho (by omega)
      obtain ⟨t, hx⟩ : ∃ t, s.ts[k]? = some t := ⟨s.ts[k], List.getElem?_eq_getElem hlt⟩
      obtain ⟨wa, wc, c0, c1, -⟩ := hc k t hx
      have HTS := hide (take_snoc8 hx)
      have O1 := hown.alloc (.cells #[.string t.t, .slice wa t.p.length wc] 57)
      have B1 := hbel.alloc hbel.size (.cells #[.string t.t, .slice wa t.p.length wc] 57)
      have hbs := hbel.size
      clear ho hc hx
      go_wp2_with (at_builtin; refine append_oneL (f := Value.string) rfl _ _ 25 rfl Tryz.underlying25 hi9 hz90 hz91 hz92 rfl (fun _ => rfl) (pre := pre) t.t rfl rfl (by simp) O1 (by simp; omega) (by omega) (by omega) ?_; intro g5 q5 w5 O5 g5' l5)
      have B5 := B1.grown g5' (by simp; omega) (fun j hj => (O1.lt j hj).1)
      clear g5' l5 O1 B1 hown
      go_roundw
      case rel =>
        refine ⟨k + 1, pre ++ [t.t], by omega, by go_num, ?_, by simp; omega, O5, B5⟩
        show _ = _
        rw [unhide HTS, List.map_append, ← unhide HP]; rfl
      case measure => simp [intOf]; omega
    · have hpre : pre = s.ts.map (·.t) := by rw [unhide HP, List.take_of_length_le (by omega)]
      have G := Gl.owned hown
      rw [hpre] at G
      clear HP
      go_wp2
      go_ret
      exact ⟨_, rfl, G, hbel⟩
end Go.Proofs.YtonhehhmnobciaaGreat

/-
  The contracts of look and May, at any segment.
-/
namespace Go.Proofs.YtonhehhmnobciaaGreat
set_option maxRecDepth 100000
open Go.RowKit Go.WideMaps Go.Maps

/-- A segment that may be, by its parts. -/
structure MayP (s : Sg) (so : Bool) : Prop where
  heads : HeadsP s so
  words : D.may (s.ts.map (·.t)) = true
  lay : ∀ (j : Nat) (t : Tm), s.ts[j]? = some t → LayOK t.p j s.lens (S.spots 0 (s.ts.take j))
  all : ((S.spots 0 s.ts).length : Int) = s.lens.sum

def LookEnd (w : World) (s : Sg) (so : Bool) (e : Ending) (w' : World) : Prop := ∃ (v : Value) (r : Bool), e = .returned (.tuple #[v, .bool r]) ∧ (r = true ↔ MayP s so) ∧ Below w.heap.size w w'
theorem look_no {w w' : World} {s : Sg} {so : Bool} (h : ¬ MayP s so) (hb : Below w.heap.size w w') (v : Value) : LookEnd w s so (.returned (.tuple #[v, .bool false])) w' := ⟨v, false, rfl, ⟨fun h => by (cases h), fun h9 => absurd h9 h⟩, hb⟩

theorem HeadsP.len {s : Sg} {so : Bool} (h : HeadsP s so) {d : Nat} {n : Int} (hn : s.lens[d]? = some n) : 0 ≤ n ∧ n ≤ 120 := by
  have hd := (List.getElem?_eq_some_iff.1 hn).1
  have h1 : s.ids[d]? = some (s.ids[d]'(by have := h.nl; omega)) := List.getElem?_eq_getElem _
  have h2 : s.keys[d]? = some (s.keys[d]'(by have := h.nl; have := h.nk; omega)) := List.getElem?_eq_getElem _
  have := h.head d _ _ _ h1 h2 hn
  simp only [S.head, Bool.and_eq_true, decide_eq_true_eq] at this
  omega

set_option maxRecDepth 100000 in
set_option maxHeartbeats 8000000 in
theorem look_all (ia ka lna ta : Option Addr) (ic kc lnc tc : Nat) (s : Sg) (so : Bool) (w : World) (h : Sv w (.slice ia s.ids.length ic) (.slice ka s.keys.length kc) (.slice lna s.lens.length lnc) (.slice ta s.ts.length tc) s) (hsz : ∀ x ∈ s.ids, x.size ≤ maxLen) (htl : s.ts.length ≤ 3518437208780) :
    Calls Tryz.prog 30 #[.agg #[.slice ia s.ids.length ic, .slice ka s.keys.length kc, .slice lna s.lens.length lnc, .slice ta s.ts.length tc, .bool so]] w (LookEnd w s so) := by
  have hmm := fun n w => run_makeMapN n w
  obtain ⟨W, hW⟩ : ∃ W, W = w.alloc (.cells #[.slice ia s.ids.length ic, .slice ka s.keys.length kc, .slice lna s.lens.length lnc, .slice ta s.ts.length tc, .bool so] 29) := ⟨_, rfl⟩
  have BW : Below w.heap.size w W := by rw [hW]; exact below_alloc _ _
  have X0 : W.heap[w.heap.size]? = some (.cells #[.slice ia s.ids.length ic, .slice ka s.keys.length kc, .slice lna s.lens.length lnc, .slice ta s.ts.length tc, .bool so] 29 (0, 0)) := by rw [hW]; exact heap_alloc_new w _
  have HV := h.below BW
  have HW := hide hW
  clear hW
  have CH := mayHeads_all ia ka lna ta ic kc lnc tc s so W HV hsz
  clear h hsz
  by_cases hHP : HeadsP s so
  case neg =>
    have HNO := hide (show ¬ MayP s so from fun h9 => hHP h9.heads)
    have HHP := hide hHP
    clear hHP
    go_enter Tryz.func30, Tryz.ntmps30
    go_wp2_with fail
    rw [← unhide HW]
    refine CH.mono ?_
    rintro e w1 ⟨r1, rfl, hr1, B1⟩
    have BB := below_trans' BW B1
    obtain rfl : r1 = false := by
      cases r1 with
      | false => rfl
      | true => exact absurd (hr1.1 rfl) (unhide HHP)
    clear hr1 HV CH X0 B1
    go_wp2
    go_ret2
    exact look_no (unhide HNO) BB _
  have hln : s.lens.length ≤ 64 := by have := hHP.n64; have := hHP.nl; omega
  have HHP := hide hHP
  clear hHP
  cases hmay : D.may (s.ts.map (·.t)) with
  | false =>
    have HMAY := hide hmay
    have HNO := hide (show ¬ MayP s so from fun h9 => by have := h9.words; rw [hmay] at this; cases this)
    clear hmay
    go_enter Tryz.func30, Tryz.ntmps30
    go_wp2_with fail
    rw [← unhide HW]
    refine CH.mono ?_
    rintro e w1 ⟨r1, rfl, hr1, B1⟩
    obtain rfl : r1 = true := hr1.2 (unhide HHP)
    have X1 := box_below X0 B1
    have BB := below_trans' BW B1
    have HV1 := HV.below B1
    have x0 := box_cell X1 (j := 0) rfl
    have x1 := box_cell X1 (j := 1) rfl
    have x2 := box_cell X1 (j := 2) rfl
    have x3 := box_cell X1 (j := 3) rfl
    have x4 := box_cell X1 (j := 4) rfl
    clear B1 X0 CH HV hr1
    go_wp2_with fail
    refine (wordsOf9_any ia ka lna ta ic kc lnc tc s so _ HV1 htl).mono ?_
    rintro e w2 ⟨v2, rfl, G2, B2⟩
    have BB2 := below_trans' BB B2
    clear B2 X1 HV1 BB x0 x1 x2 x3 x4
    go_wp2_with (go_at_call 43; refine (may_any _ _ _ G2 _ (unhide HMAY)).mono ?_; rintro e w3 ⟨rfl, rfl⟩)
    go_ret2
    exact look_no (unhide HNO) BB2 _
  | true =>
  have HMAY := hide hmay
  have htn : s.ts.length ≤ 200 := by have := D.may_len hmay; simpa using this
  clear hmay
  go_enter Tryz.func30, Tryz.ntmps30
  go_wp2_with fail
  rw [← unhide HW]
  refine CH.mono ?_
  rintro e w1 ⟨r1, rfl, hr1, B1⟩
  obtain rfl : r1 = true := hr1.2 (unhide HHP)
  have X1 := box_below X0 B1
  have BB := below_trans' BW B1
  have HV1 := HV.below B1
  have x0 := box_cell X1 (j := 0) rfl
  have x1 := box_cell X1 (j := 1) rfl
  have x2 := box_cell X1 (j := 2) rfl
  have x3 := box_cell X1 (j := 3) rfl
  have x4 := box_cell X1 (j := 4) rfl
  clear B1 X0 CH HV hr1
  go_wp2_with fail
  refine (wordsOf9_any ia ka lna ta ic kc lnc tc s so _ HV1 htl).mono ?_
  rintro e w2 ⟨v2, rfl, G2, B2⟩
  have X2 := box_below X1 B2
  have BB2 := below_trans' BB B2
  have HV2 := HV1.below B2
  clear B2 X1 HV1 BB x0 x1 x2 x3 x4
  have x2 := box_cell X2 (j := 2) rfl
  have x3 := box_cell X2 (j := 3) rfl
  go_wp2_with (go_at_call 43; refine (may_any _ _ _ G2 _ (unhide HMAY)).mono ?_; rintro e w3 ⟨rfl, rfl⟩)
  obtain ⟨a', c', hv', -, -, -, hoL⟩ := HV2.2.2.1.open
  simp only [Value.slice.injEq, true_and] at hv'
  obtain ⟨rfl, rfl⟩ := hv'
  go_loop [4, 22] (fun mv iv => ∃ (k : Nat) (m : Int), k ≤ s.lens.length ∧ iv = .int .i64 k ∧ mv = .int .i64 m ∧ Hid (m = (s.lens.take k).sum) ∧ 0 ≤ m ∧ m ≤ (k : Int) * 120) (fun _ iv => s.lens.length - (intOf iv).toNat)
  case atStart => exact ⟨0, 0, Nat.zero_le _, rfl, rfl, rfl, by omega, by omega⟩
  case round =>
    obtain ⟨k, m, hk, rfl, rfl, HM, hm0, hm1⟩ := hrel
    by_cases hlt : k < s.lens.length
    · obtain ⟨b, off, rfl, hb, hc⟩ := hoL (by omega)
      obtain ⟨c, a3⟩ : ∃ c, s.lens[k]? = some c := ⟨s.lens[k], List.getElem?_eq_getElem hlt⟩
      have e1 := hc k hlt
      rw [show s.lens.getD k 0 = c by simp [List.getD, a3]] at e1
      have hcl := (unhide HHP).len a3
      have HST := hide (sum_step a3)
      clear hc a3
      go_wp2
      go_round
      case rel => exact ⟨k + 1, m + c, by omega, by go_num, by go_num, by (show _ = _; rw [unhide HST, unhide HM]), by omega, by omega⟩
      case measure => simp [intOf]; omega
    · have hm : m = s.lens.sum := by rw [unhide HM, List.take_of_length_le (by omega)]
      have HMT := hide hm
      have mk := hmm m
      have HTM := HV2.2.2.2
      have HLN := HV2.2.2.1
      have hZ3 : w.heap.size < w3.heap.size := (Array.getElem?_eq_some_iff.1 X2).1
      have m0 : Map8 (w3.alloc (.map #[] 0)) w3.heap.size 0 (.map []) := World.ownsMap_made _ _ _ _
      have b0 : Below w3.heap.size w3 (w3.alloc (.map #[] 0)) := below_alloc _ _
      clear hm HM hmm
      go_wp2
      go_loopw [35] (fun iv wr => ∃ (j : Nat) (M : DataW Unit) (dj : List S.Spot), j ≤ s.ts.length ∧ iv = .int .i64 j ∧ Hid (dj = S.spots 0 (s.ts.take j)) ∧ Hid ((dj.map (·.1)).Nodup) ∧ dj.length ≤ j * 7680 ∧ Hid (∀ (i : Nat) (t : Tm), i < j → s.ts[i]? = some t → LayOK t.p i s.lens (S.spots 0 (s.ts.take i))) ∧ Map8 wr w3.heap.size dj.length M ∧ Hid (Tel M dj) ∧ Below w3.heap.size w3 wr) (fun iv _ => s.ts.length - (intOf iv).toNat)
      case atStart => exact ⟨0, _, [], Nat.zero_le _, rfl, rfl, by (show List.Nodup _; simp), Nat.zero_le _, hide (fun i t hi => by omega), m0, Tel.start, b0⟩
      case round =>
        clear m0 b0
        obtain ⟨j, M, dj, hj, rfl, HDJ, HDN, hdl, HLO, hown, HT, hbel⟩ := hrel
        have HTR := HTM.below hbel
        have HLR := HLN.below hbel
        have XR := (hbel.block _ hZ3).trans X2
        have hw3r := hbel.size
        by_cases hlt2 : j < s.ts.length
        · obtain ⟨a', c', hv', -, -, -, hoT⟩ := HTR.open
          simp only [Value.slice.injEq, true_and] at hv'
          obtain ⟨rfl, rfl⟩ := hv'
          obtain ⟨b, off, rfl, hb, hc⟩ := hoT (by omega)
          obtain ⟨t, hx⟩ : ∃ t, s.ts[j]? = some t := ⟨s.ts[j], List.getElem?_eq_getElem hlt2⟩
          obtain ⟨pa, pc, c0, c1, P2⟩ := hc j t hx
          have BT := below_alloc wr (.cells #[.string t.t, .slice pa t.p.length pc] 57)
          have CL := lay_all w3.heap.size _ s.lens j _ t.p _ M dj (hown.alloc (.cells #[.string t.t, .slice pa t.p.length pc] 57)) (unhide HT) (HLR.below BT) (P2.below BT) (unhide HDN) (by omega) (by omega)
          have HSN := hide (S.spots_snoc hx)
          have HX := hide hx
          have x2 := box_cell XR (j := 2) rfl
          have hzr : w.heap.size < wr.heap.size := by omega
          have hbel1 := hbel.alloc hbel.size (.cells #[.string t.t, .slice pa t.p.length pc] 57)
          clear hc hx P2 HTR HLR XR HT
          by_cases hLO : LayOK t.p j s.lens dj
          case neg =>
            have HNO := hide (show ¬ MayP s so from fun h9 => by
              have := h9.lay j t (unhide HX)
              rw [← unhide HDJ] at this
              exact hLO this)
            have HLN := hide hLO
            clear hLO
            go_wp2_with (go_at_call 71; refine CL.mono ?_; rintro e w4 ⟨r4, rfl, hr4, -, g4⟩; obtain rfl : r4 = false := (by cases r4 with | false => rfl | true => exact absurd (hr4.1 rfl) (unhide HLN)))
            have B4 := hbel1.grown g4 (by simp; omega) (fun i hi => by cases hi; exact Nat.le_refl _)
            go_ret2
            exact look_no (unhide HNO) (below_trans' BB2 B4) _
          have HLY := hide hLO
          clear hLO
          go_wp2_with (go_at_call 71; refine CL.mono ?_; rintro e w4 ⟨r4, rfl, hr4, hm4, g4⟩; obtain rfl : r4 = true := hr4.2 (unhide HLY))
          have B4 := hbel1.grown g4 (by simp; omega) (fun i hi => by cases hi; exact Nat.le_refl _)
          obtain ⟨M4, O4, T4⟩ := hm4 (by first | rfl | trivial)
          have HT4 := hide T4
          have hsp9 : (t.p.flatMap (S.sp j)).length ≤ 7680 := by
            have h1 := Q.may_spots (i := j) (unhide HLY).2.1 t.p.length
            rw [List.take_length] at h1
            have := Q.may_le (unhide HLY).2.1
            omega
          clear g4 T4 CL hown hbel hbel1 hr4 hm4
          go_roundw
          case rel =>
            refine ⟨j + 1, M4, dj ++ t.p.flatMap (S.sp j), by omega, by go_num, by (show _ = _; rw [unhide HSN, unhide HDJ]), (unhide HLY).2.2.1, by rw [List.length_append]; omega, hide (fun i t' hi ht' => ?_), O4, unhide HT4, B4⟩
            by_cases e : i = j
            · subst e
              rw [unhide HX] at ht'
              cases ht'
              rw [← unhide HDJ]
              exact unhide HLY
            · exact unhide HLO i t' (by omega) ht'
          case measure => simp [intOf]; omega
        · have e : dj = S.spots 0 s.ts := by rw [unhide HDJ, List.take_of_length_le (by omega)]
          have HE := hide e
          have HSZ := hide (show Maps.size M = dj.length from (unhide HT).2.2.2)
          obtain ⟨z, hz⟩ : ∃ z, Maps.size M = z := ⟨_, rfl⟩
          have HZ := hide hz
          clear e HTR HLR XR
          by_cases hq' : ((z : Nat) : Int) = m
          · have hq : (((z : Nat) : Int) == m) = true := by simp [hq']
            have HQ := hide hq'
            have HYES := hide (show MayP s so from ⟨unhide HHP, unhide HMAY, fun i t ht => unhide HLO i t (by have := (List.getElem?_eq_some_iff.1 ht).1; omega) ht, by rw [← unhide HE, ← unhide HSZ, unhide HZ, unhide HQ, unhide HMT]⟩)
            clear hq'
            go_wp2_with (at_len; refine wpList_len_own _ rfl _ 65 rfl 90 3 Tryz.underlying65 _ w3.heap.size dj.length M rfl hown ?_)
            go_ret2
            exact ⟨_, true, rfl, ⟨fun _ => unhide HYES, fun _ => rfl⟩, below_trans' BB2 hbel⟩
          · have hq : (((z : Nat) : Int) == m) = false := by simp [hq']
            have HQ := hide hq'
            have HNO := hide (show ¬ MayP s so from fun h9 => by
              have := h9.all
              rw [← unhide HE, ← unhide HSZ, unhide HZ, ← unhide HMT] at this
              exact unhide HQ this)
            clear hq'
            go_wp2_with (at_len; refine wpList_len_own _ rfl _ 65 rfl 90 3 Tryz.underlying65 _ w3.heap.size dj.length M rfl hown ?_)
            go_ret2
            exact look_no (unhide HNO) (below_trans' BB2 hbel) _

def MayEnd (w : World) (s : Sg) (so : Bool) (e : Ending) (w' : World) : Prop := ∃ r : Bool, e = .returned (.bool r) ∧ (r = true ↔ MayP s so) ∧ Below w.heap.size w w'
set_option maxRecDepth 100000 in
set_option maxHeartbeats 4000000 in
theorem segMay_all (ia ka lna ta : Option Addr) (ic kc lnc tc : Nat) (s : Sg) (so : Bool) (w : World) (h : Sv w (.slice ia s.ids.length ic) (.slice ka s.keys.length kc) (.slice lna s.lens.length lnc) (.slice ta s.ts.length tc) s) (hsz : ∀ x ∈ s.ids, x.size ≤ maxLen) (htl : s.ts.length ≤ 3518437208780) :
    Calls Tryz.prog 14 #[.agg #[.slice ia s.ids.length ic, .slice ka s.keys.length kc, .slice lna s.lens.length lnc, .slice ta s.ts.length tc, .bool so]] w (MayEnd w s so) := by
  obtain ⟨W, hW⟩ : ∃ W, W = w.alloc (.cells #[.slice ia s.ids.length ic, .slice ka s.keys.length kc, .slice lna s.lens.length lnc, .slice ta s.ts.length tc, .bool so] 29) := ⟨_, rfl⟩
  have BW : Below w.heap.size w W := by rw [hW]; exact below_alloc _ _
  have X0 : W.heap[w.heap.size]? = some (.cells #[.slice ia s.ids.length ic, .slice ka s.keys.length kc, .slice lna s.lens.length lnc, .slice ta s.ts.length tc, .bool so] 29 (0, 0)) := by rw [hW]; exact heap_alloc_new w _
  have HV := h.below BW
  have HW := hide hW
  clear hW
  have C := look_all ia ka lna ta ic kc lnc tc s so W HV hsz htl
  clear h HV X0 hsz
  go_enter Tryz.func14, Tryz.ntmps14
  go_wp2_with fail
  rw [← unhide HW]
  refine C.mono ?_
  rintro e w1 ⟨b, r, rfl, hr, B1⟩
  have BB := below_trans' BW B1
  have HR := hide hr
  clear hr B1
  go_wp2
  go_ret
  exact ⟨r, rfl, unhide HR, BB⟩
end Go.Proofs.YtonhehhmnobciaaGreat

/-
  A segment that may be has bytes that have room in a frame. Plain mathematics; no function is entered here.
-/
namespace Go.Proofs.YtonhehhmnobciaaGreat
set_option maxRecDepth 100000

theorem V.putA_one {n : Int} (h : n < 128) : (V.putA n).length ≤ 1 := by
  unfold V.putA
  split
  · rw [D.put_one h]; exact Nat.le_refl _
  · simp
theorem V.putA_two {n : Int} (h : n < 16384) : (V.putA n).length ≤ 2 := by
  unfold V.putA
  split
  · exact D.put_two h
  · simp
theorem V.enc_one_len : ∀ {ns : List Int}, (∀ n ∈ ns, n < 128) → (V.enc ns).length ≤ ns.length
  | [], _ => by simp [V.enc]
  | n :: ns, h => by
    have ih := V.enc_one_len (ns := ns) (fun m hm => h m (List.mem_cons_of_mem _ hm))
    have := D.put_one (h n (List.mem_cons_self ..))
    rw [V.enc_cons, List.length_append, List.length_cons]
    omega
theorem V.deltas_small : ∀ {l : List Int} {m : Int}, 0 ≤ m → Q.riseB m 120 l = true → ∀ n ∈ V.deltas m l, n < 128
  | [], _, _, _, n, hn => by simp [V.deltas] at hn
  | x :: r, m, h0, h, n, hn => by
    obtain ⟨h1, h2⟩ := Q.rise_head h
    simp only [V.deltas, List.mem_cons] at hn
    rcases hn with rfl | hn
    · omega
    · exact V.deltas_small (by omega) h2 n hn
theorem Q.rise_small {a : List Int} (h : Q.places a = true) : (V.riseA a).length ≤ a.length + 1 := by
  rw [Q.rise_enc h]
  have h1 := V.enc_one_len (ns := V.nums a) (fun n hn => by
    rcases List.mem_cons.1 hn with e | e
    · have := (Q.places_le h).2; omega
    · exact V.deltas_small (by omega) (Q.places_rise h) n e)
  rw [V.nums_len] at h1
  exact h1
def Q.many (L : List Pt) : Nat := (L.map (fun p => p.a.length)).sum
theorem Q.many_cons (p : Pt) (r : List Pt) : Q.many (p :: r) = p.a.length + Q.many r := rfl
theorem Q.many_app (a b : List Pt) : Q.many (a ++ b) = Q.many a + Q.many b := by simp [Q.many]
theorem Q.body_small : ∀ {g : List Pt} {m : Int}, -1 ≤ m → Q.mayB (m + 1) g = true → (Q.body m g).length ≤ Q.many g + 2 * g.length
  | [], _, _, _ => by simp [Q.body]
  | p :: r, m, hm, h => by
    obtain ⟨h1, h2, h3⟩ := Q.may_head h
    have ih := Q.body_small (g := r) (m := p.d) (by omega) h3
    have e1 := V.putA_one (n := p.d - m - 1) (by omega)
    have e2 := Q.rise_small h2
    simp only [Q.body, List.length_append, List.length_cons, Q.many_cons]
    omega
theorem Q.many_le : ∀ {g : List Pt} {m : Int}, Q.mayB m g = true → g.length ≤ Q.many g ∧ Q.many g ≤ g.length * 120
  | [], _, _ => ⟨Nat.le_refl _, Nat.le_refl _⟩
  | p :: r, m, h => by
    obtain ⟨h1, h2, h3⟩ := Q.may_head h
    have ih := Q.many_le h3
    have := Q.places_le h2
    simp only [List.length_cons, Q.many_cons]
    omega
theorem Q.blks_small : ∀ (f : Nat) (m : Int) (L : List Pt), -1 ≤ m → m ≤ 63 → Q.mayB (m + 1) L = true → (Q.blks f m L).length ≤ Q.many L + 5 * L.length
  | 0, _, _, _, _, _ => by simp [Q.blks]
  | f + 1, m, [], _, _, _ => by simp [Q.blks]
  | f + 1, m, p :: r, hm, hm2, h => by
    obtain ⟨t1, t2⟩ := Q.may_take h 4
    have hb := Q.lastD_bd t1 hm hm2
    have ih := Q.blks_small f (Q.lastD m ((p :: r).take 4)) ((p :: r).drop 4) (by omega) hb.2.1 t2
    have e1 := Q.body_small hm t1
    have e0 := Q.many_le t1
    have e2 := V.putA_one (n := Q.lastD m ((p :: r).take 4)) (by omega)
    have hl4 : ((p :: r).take 4).length ≤ 4 := List.length_take_le _ _
    have e3 := V.putA_two (n := ((Q.body m ((p :: r).take 4)).length : Int)) (by omega)
    have e4 : Q.many (p :: r) = Q.many ((p :: r).take 4) + Q.many ((p :: r).drop 4) := by rw [← Q.many_app, List.take_append_drop]
    have e5 : (p :: r).length = ((p :: r).take 4).length + ((p :: r).drop 4).length := by rw [← List.length_append, List.take_append_drop]
    have e6 : 1 ≤ ((p :: r).take 4).length := by simp
    rw [Q.blks_step (by simp)]
    simp only [Q.head, List.length_append]
    omega
theorem Q.bytes_small {L : List Pt} (h : Q.may L = true) : (Q.bytes L).length ≤ 1 + 6 * Q.many L := by
  have h1 := Q.blks_small 17 (-1) L (by omega) (by omega) (show Q.mayB (-1 + 1) L = true from h)
  have h2 := Q.many_le (m := 0) h
  have h3 := Q.may_le h
  have h4 := V.putA_one (n := (L.length : Int)) (by omega)
  unfold Q.bytes
  rw [List.length_append]
  omega

theorem spots_many : ∀ (ts : List Tm) (i : Nat), (S.spots i ts).length = (ts.map (fun t => Q.many t.p)).sum
  | [], _ => rfl
  | t :: ts, i => by
    have ih := spots_many ts (i + 1)
    have e : ∀ L : List Pt, (L.flatMap (S.sp i)).length = Q.many L := fun L => by
      induction L with
      | nil => rfl
      | cons p r ih => rw [List.flatMap_cons, List.length_append, ih, Q.many_cons]; simp [S.sp]
    simp only [S.spots, List.length_append, ih, e, List.map_cons, List.sum_cons]

theorem MayP.may {s : Sg} {so : Bool} (h : MayP s so) : ∀ t ∈ s.ts, Q.may t.p = true ∧ 0 < t.p.length := fun t ht => by
  obtain ⟨j, hj, e⟩ := List.mem_iff_getElem.1 ht
  have := h.lay j t (by rw [List.getElem?_eq_getElem hj, e])
  exact ⟨this.2.1, this.1⟩
theorem MayP.head {s : Sg} {so : Bool} (h : MayP s so) {d : Nat} {x : ByteArray} {k n : Int} (h1 : s.ids[d]? = some x) (h2 : s.keys[d]? = some k) (h3 : s.lens[d]? = some n) : 1 ≤ x.size ∧ x.size ≤ 16 ∧ 0 ≤ k ∧ k ≤ 1073741824 ∧ 0 ≤ n ∧ n ≤ 120 := by
  have := h.heads.head d x k n h1 h2 h3
  simp only [S.head, Bool.and_eq_true, decide_eq_true_eq] at this
  omega
theorem MayP.id {s : Sg} {so : Bool} (h : MayP s so) : ∀ x ∈ s.ids, 1 ≤ x.size ∧ x.size ≤ 16 := fun x hx => by
  obtain ⟨d, hd, e⟩ := List.mem_iff_getElem.1 hx
  have n1 := h.heads.nk
  have n2 := h.heads.nl
  have := h.head (d := d) (by rw [List.getElem?_eq_getElem hd, e]) (List.getElem?_eq_getElem (by omega)) (List.getElem?_eq_getElem (by omega))
  omega
theorem MayP.key {s : Sg} {so : Bool} (h : MayP s so) : ∀ k ∈ s.keys, 0 ≤ k ∧ k ≤ 1073741824 := fun k hk => by
  obtain ⟨d, hd, e⟩ := List.mem_iff_getElem.1 hk
  have n1 := h.heads.nk
  have n2 := h.heads.nl
  have := h.head (d := d) (List.getElem?_eq_getElem (by omega)) (by rw [List.getElem?_eq_getElem hd, e]) (List.getElem?_eq_getElem (by omega))
  omega
theorem MayP.ln {s : Sg} {so : Bool} (h : MayP s so) : ∀ n ∈ s.lens, 0 ≤ n ∧ n ≤ 120 := fun k hk => by
  obtain ⟨d, hd, e⟩ := List.mem_iff_getElem.1 hk
  exact h.heads.len (by rw [List.getElem?_eq_getElem hd, e])
theorem MayP.fit {s : Sg} {so : Bool} (h : MayP s so) : J.Fit s :=
  ⟨h.heads.n64, h.heads.nk, h.heads.nl, fun x hx => (h.id x hx).2, h.key, h.ln, h.words, fun t ht => (h.may t ht).1⟩

theorem sum_bd : ∀ (l : List Int) (b : Int), 0 ≤ b → (∀ n ∈ l, n ≤ b) → l.sum ≤ (l.length : Int) * b
  | [], _, _, _ => by simp
  | x :: l, b, hb, h => by
    have ih := sum_bd l b hb (fun n hn => h n (List.mem_cons_of_mem _ hn))
    have := h x (List.mem_cons_self ..)
    simp only [List.sum_cons, List.length_cons]
    have e : (((l.length + 1 : Nat)) : Int) * b = (l.length : Int) * b + b := by rw [Int.natCast_add, Int.add_mul]; simp
    omega
theorem flat_le9 {α : Type} (f : α → List Int) (c : Nat) : ∀ (l : List α), (∀ x ∈ l, (f x).length ≤ c) → (l.flatMap f).length ≤ l.length * c
  | [], _ => by simp
  | x :: l, h => by
    have ih := flat_le9 f c l (fun y hy => h y (List.mem_cons_of_mem _ hy))
    have := h x (List.mem_cons_self ..)
    rw [List.flatMap_cons, List.length_append, List.length_cons, Nat.add_mul]
    omega
theorem terms_len : ∀ (ts : List Tm), (∀ t ∈ ts, Q.may t.p = true) → (ts.map (fun t => Q.many t.p)).sum ≤ 7680 → (ts.flatMap (fun t => J.piece (Q.packA t.p))).length ≤ ts.length * 4 + 6 * (ts.map (fun t => Q.many t.p)).sum
  | [], _, _ => by simp
  | t :: ts, h, hs => by
    simp only [List.map_cons, List.sum_cons] at hs
    have ih := terms_len ts (fun u hu => h u (List.mem_cons_of_mem _ hu)) (by omega)
    have hm := h t (List.mem_cons_self ..)
    have h1 := Q.bytes_small hm
    have e : Q.packA t.p = Q.bytes t.p := by simp [Q.packA, hm]
    have h2 : (V.put ((Q.bytes t.p).length : Int)).length ≤ 3 := by
      have := V.put_mono (a := ((Q.bytes t.p).length : Int)) (b := 2097151) (by omega) (by omega)
      have h9 : (V.put 2097151).length = 3 := by decide
      omega
    have hp : (J.piece (Q.packA t.p)).length = (V.put ((Q.bytes t.p).length : Int)).length + (Q.bytes t.p).length := by rw [e, J.piece, List.length_append]
    rw [List.flatMap_cons, List.length_append, List.length_cons, List.map_cons, List.sum_cons, hp]
    omega

theorem MayP.bytes {s : Sg} {so : Bool} (h : MayP s so) : (J.inner s so).length ≤ 65536 := by
  have n0 := h.heads.n64
  have n1 := h.heads.nk
  have n2 := h.heads.nl
  have b1 := flat_le9 (fun x : ByteArray => J.piece (D.nums x)) 21 s.ids (fun x hx => by
    have := h.id x hx
    have h5 := (V.put_len ((D.nums x).length : Int)).2
    simp only [J.piece, List.length_append, D.nums_len] at h5 ⊢
    omega)
  have b2 := V.enc_len s.keys
  have b3 := V.enc_len s.lens
  have b4 := D.pack_small (s.ts.map (·.t))
  have b5 := (V.put_len ((D.pack (s.ts.map (·.t))).length : Int)).2
  have b6 := (V.put_len (s.ids.length : Int)).2
  have hs := sum_bd s.lens 120 (by omega) (fun n hn => (h.ln n hn).2)
  have ha := h.all
  rw [spots_many] at ha
  have hsum : (s.ts.map (fun t => Q.many t.p)).sum ≤ 7680 := by
    have : ((s.lens.length : Nat) : Int) * 120 ≤ 7680 := by omega
    omega
  have b7 := terms_len s.ts (fun t ht => (h.may t ht).1) hsum
  have hw := D.may_len h.words
  rw [List.length_map] at hw
  have b8 : (J.piece (D.pack (s.ts.map (·.t)))).length = (V.put ((D.pack (s.ts.map (·.t))).length : Int)).length + (D.pack (s.ts.map (·.t))).length := by rw [J.piece, List.length_append]
  simp only [J.inner, List.length_cons, List.length_append]
  omega
theorem J.inner_byt {s : Sg} {so : Bool} (h : MayP s so) : V.Byt (J.inner s so) := by
  have pb : ∀ b : List Int, b.length ≤ 1000000 → V.Byt b → V.Byt (J.piece b) := fun b hl hb => (V.put_byt _ (by omega) (by unfold V.Top; omega)).app hb
  have fb : ∀ {α : Type} (f : α → List Int) (l : List α), (∀ x ∈ l, V.Byt (f x)) → V.Byt (l.flatMap f) := fun f l hf c hc => by
    obtain ⟨x, hx, hcx⟩ := List.mem_flatMap.1 hc
    exact hf x hx c hcx
  have n0 := h.heads.n64
  have h0 : V.Byt [(if so = true then 1 else 0 : Int)] := by
    intro c hc
    simp only [List.mem_singleton] at hc
    subst hc
    cases so <;> simp
  refine V.Byt.app (a := [(if so = true then 1 else 0 : Int)]) h0 ((V.put_byt _ (by omega) (by unfold V.Top; omega)).app ((fb _ _ fun x hx => pb _ (by rw [D.nums_len]; have := h.id x hx; omega) (D.nums_byt x)).app ((V.enc_byt fun n hn => by have := h.key n hn; unfold V.Top; omega).app ((V.enc_byt fun n hn => by have := h.ln n hn; unfold V.Top; omega).app ((pb _ (by have := D.pack_small (s.ts.map (·.t)); omega) (D.pack_byt _)).app (fb _ _ fun t ht => ?_))))))
  have hm := (h.may t ht).1
  have e : Q.packA t.p = Q.bytes t.p := by simp [Q.packA, hm]
  rw [e]
  exact pb _ (by have := Q.bytes_len hm; omega) (Q.bytes_byt _)
end Go.Proofs.YtonhehhmnobciaaGreat

/-
  A segment in its box, and the contract of the document's own comparison of segments, at two that read the same.
-/
namespace Go.Proofs.YtonhehhmnobciaaGreat
set_option maxRecDepth 100000
open Go.RowKit

/-- A segment in its box. -/
structure SB (w : World) (b : Nat) (ia ka lna ta : Option Addr) (ic kc lnc tc : Nat) (s : Sg) (so : Bool) : Prop where
  box : w.heap[b]? = some (.cells #[.slice ia s.ids.length ic, .slice ka s.keys.length kc, .slice lna s.lens.length lnc, .slice ta s.ts.length tc, .bool so] 29 (0, 0))
  sv : Sv w (.slice ia s.ids.length ic) (.slice ka s.keys.length kc) (.slice lna s.lens.length lnc) (.slice ta s.ts.length tc) s
theorem SB.below {w w' : World} {b : Nat} {ia ka lna ta : Option Addr} {ic kc lnc tc : Nat} {s : Sg} {so : Bool} (h : SB w b ia ka lna ta ic kc lnc tc s so) (hb : Below w.heap.size w w') : SB w' b ia ka lna ta ic kc lnc tc s so := ⟨box_below h.box hb, h.sv.below hb⟩
theorem SB.c0 {w : World} {b : Nat} {ia ka lna ta : Option Addr} {ic kc lnc tc : Nat} {s : Sg} {so : Bool} (h : SB w b ia ka lna ta ic kc lnc tc s so) : w.cell? ⟨b, 0, none⟩ = some (.slice ia s.ids.length ic) := box_cell h.box rfl
theorem SB.c1 {w : World} {b : Nat} {ia ka lna ta : Option Addr} {ic kc lnc tc : Nat} {s : Sg} {so : Bool} (h : SB w b ia ka lna ta ic kc lnc tc s so) : w.cell? ⟨b, 1, none⟩ = some (.slice ka s.keys.length kc) := box_cell h.box rfl
theorem SB.c2 {w : World} {b : Nat} {ia ka lna ta : Option Addr} {ic kc lnc tc : Nat} {s : Sg} {so : Bool} (h : SB w b ia ka lna ta ic kc lnc tc s so) : w.cell? ⟨b, 2, none⟩ = some (.slice lna s.lens.length lnc) := box_cell h.box rfl
theorem SB.c3 {w : World} {b : Nat} {ia ka lna ta : Option Addr} {ic kc lnc tc : Nat} {s : Sg} {so : Bool} (h : SB w b ia ka lna ta ic kc lnc tc s so) : w.cell? ⟨b, 3, none⟩ = some (.slice ta s.ts.length tc) := box_cell h.box rfl
theorem SB.c4 {w : World} {b : Nat} {ia ka lna ta : Option Addr} {ic kc lnc tc : Nat} {s : Sg} {so : Bool} (h : SB w b ia ka lna ta ic kc lnc tc s so) : w.cell? ⟨b, 4, none⟩ = some (.bool so) := box_cell h.box rfl
theorem SB.new {w : World} {ia ka lna ta : Option Addr} {ic kc lnc tc : Nat} {s : Sg} {so : Bool} (h : Sv w (.slice ia s.ids.length ic) (.slice ka s.keys.length kc) (.slice lna s.lens.length lnc) (.slice ta s.ts.length tc) s) :
    SB (w.alloc (.cells #[.slice ia s.ids.length ic, .slice ka s.keys.length kc, .slice lna s.lens.length lnc, .slice ta s.ts.length tc, .bool so] 29)) w.heap.size ia ka lna ta ic kc lnc tc s so := ⟨heap_alloc_new w _, h.below (below_alloc _ _)⟩

set_option maxRecDepth 100000 in
set_option maxHeartbeats 8000000 in
theorem rsegSame_any (ia ka lna ta : Option Addr) (ic kc lnc tc : Nat) (s : Sg) (so : Bool) (ia2 ka2 lna2 ta2 : Option Addr) (ic2 kc2 lnc2 tc2 : Nat) (w : World) (h : Sv w (.slice ia s.ids.length ic) (.slice ka s.keys.length kc) (.slice lna s.lens.length lnc) (.slice ta s.ts.length tc) s) (k : Sv w (.slice ia2 s.ids.length ic2) (.slice ka2 s.keys.length kc2) (.slice lna2 s.lens.length lnc2) (.slice ta2 s.ts.length tc2) s) :
    Calls Tryz.prog 11 #[.agg #[.slice ia s.ids.length ic, .slice ka s.keys.length kc, .slice lna s.lens.length lnc, .slice ta s.ts.length tc, .bool so], .agg #[.slice ia2 s.ids.length ic2, .slice ka2 s.keys.length kc2, .slice lna2 s.lens.length lnc2, .slice ta2 s.ts.length tc2, .bool so]] w fun e w' => e = .returned (.bool true) ∧ Below w.heap.size w w' := by
  obtain ⟨W, hW⟩ : ∃ W, W = (w.alloc (.cells #[.slice ia s.ids.length ic, .slice ka s.keys.length kc, .slice lna s.lens.length lnc, .slice ta s.ts.length tc, .bool so] 29)).alloc (.cells #[.slice ia2 s.ids.length ic2, .slice ka2 s.keys.length kc2, .slice lna2 s.lens.length lnc2, .slice ta2 s.ts.length tc2, .bool so] 29) := ⟨_, rfl⟩
  have BW : Below w.heap.size w W := by rw [hW]; exact below_all (below_alloc _ _) _
  have X0 : W.heap[w.heap.size]? = some (.cells #[.slice ia s.ids.length ic, .slice ka s.keys.length kc, .slice lna s.lens.length lnc, .slice ta s.ts.length tc, .bool so] 29 (0, 0)) := by rw [hW, Below.heap_alloc _ _ _ (by simp)]; exact heap_alloc_new w _
  have Y0 : W.heap[w.heap.size + 1]? = some (.cells #[.slice ia2 s.ids.length ic2, .slice ka2 s.keys.length kc2, .slice lna2 s.lens.length lnc2, .slice ta2 s.ts.length tc2, .bool so] 29 (0, 0)) := by
    rw [hW]
    have := heap_alloc_new (w.alloc (.cells #[.slice ia s.ids.length ic, .slice ka s.keys.length kc, .slice lna s.lens.length lnc, .slice ta s.ts.length tc, .bool so] 29)) (.cells #[.slice ia2 s.ids.length ic2, .slice ka2 s.keys.length kc2, .slice lna2 s.lens.length lnc2, .slice ta2 s.ts.length tc2, .bool so] 29)
    simpa using this
  have XA : SB W w.heap.size ia ka lna ta ic kc lnc tc s so := ⟨X0, h.below BW⟩
  have XB : SB W (w.heap.size + 1) ia2 ka2 lna2 ta2 ic2 kc2 lnc2 tc2 s so := ⟨Y0, k.below BW⟩
  have hmx : s.ts.length ≤ 9223372036854775807 := by
    obtain ⟨_, _, _, hl9, hm9, _⟩ := h.2.2.2.open
    omega
  have HW := hide hW
  clear hW h k X0 Y0
  go_enter Tryz.func11, Tryz.ntmps11
  go_wp2_with fail
  rw [← unhide HW]
  obtain ⟨p1, hp1⟩ : ∃ p1, w.heap.size = p1 := ⟨_, rfl⟩
  obtain ⟨p2, hp2⟩ : ∃ p2, w.heap.size + 1 = p2 := ⟨_, rfl⟩
  have HP := hide hp1
  rw [hp2] at XB
  rw [hp1] at XA
  simp only [hp2]
  simp only [hp1]
  clear hp1 hp2 HW
  refine (texts_any _ _ s.ids s.ids _ XA.sv.1 XB.sv.1 true (by simp)).mono ?_
  rintro e w1 ⟨rfl, B1⟩
  replace XA := XA.below B1
  replace XB := XB.below B1
  replace BW := below_trans' BW B1
  clear B1
  have a0 := XA.c0
  have a1 := XA.c1
  have a2 := XA.c2
  have a3 := XA.c3
  have a4 := XA.c4
  have b0 := XB.c0
  have b1 := XB.c1
  have b2 := XB.c2
  have b3 := XB.c3
  have b4 := XB.c4
  go_wp2_with fail
  refine (ints_b _ _ s.keys s.keys _ XA.sv.2.1 XB.sv.2.1 true (by simp)).mono ?_
  rintro e w2 ⟨rfl, B2⟩
  replace XA := XA.below B2
  replace XB := XB.below B2
  replace BW := below_trans' BW B2
  clear B2
  clear a0 a1 a2 a3 a4 b0 b1 b2 b3 b4
  have a0 := XA.c0
  have a1 := XA.c1
  have a2 := XA.c2
  have a3 := XA.c3
  have a4 := XA.c4
  have b0 := XB.c0
  have b1 := XB.c1
  have b2 := XB.c2
  have b3 := XB.c3
  have b4 := XB.c4
  go_wp2_with fail
  refine (ints_b _ _ s.lens s.lens _ XA.sv.2.2.1 XB.sv.2.2.1 true (by simp)).mono ?_
  rintro e w3 ⟨rfl, B3⟩
  replace XA := XA.below B3
  replace XB := XB.below B3
  replace BW := below_trans' BW B3
  clear B3
  clear a0 a1 a2 a3 a4 b0 b1 b2 b3 b4
  have a0 := XA.c0
  have a1 := XA.c1
  have a2 := XA.c2
  have a3 := XA.c3
  have a4 := XA.c4
  have b0 := XB.c0
  have b1 := XB.c1
  have b2 := XB.c2
  have b3 := XB.c3
  have b4 := XB.c4
  have q1 : (so == so) = true := by simp
  have q2 : (so != so) = false := by simp
  have q3 : ((s.ts.length : Int) != (s.ts.length : Int)) = false := by simp
  go_wp2
  clear a0 a1 a2 a3 a4 b0 b1 b2 b3 b4
  go_loopw [8] (fun iv wr => ∃ k : Nat, k ≤ s.ts.length ∧ iv = .int .i64 k ∧ Below w3.heap.size w3 wr) (fun iv _ => s.ts.length - (intOf iv).toNat)
  case atStart => exact ⟨0, Nat.zero_le _, rfl, Below.refl _ _⟩
  case round =>
    obtain ⟨k, hk, rfl, hbel⟩ := hrel
    have ZA := XA.below hbel
    have ZB := XB.below hbel
    have za := ZA.c3
    have zb := ZB.c3
    by_cases hlt : k < s.ts.length
    · obtain ⟨a', c', hv', -, -, -, ho⟩ := ZA.sv.2.2.2.open
      simp only [Value.slice.injEq, true_and] at hv'
      obtain ⟨rfl, rfl⟩ := hv'
      obtain ⟨b1, o1, rfl, hb1, hc1⟩ := ho (by omega)
      clear ho
      obtain ⟨a', c', hv', -, -, -, ho⟩ := ZB.sv.2.2.2.open
      simp only [Value.slice.injEq, true_and] at hv'
      obtain ⟨rfl, rfl⟩ := hv'
      obtain ⟨b2, o2, rfl, hb2, hc2⟩ := ho (by omega)
      obtain ⟨t, hx⟩ : ∃ t, s.ts[k]? = some t := ⟨s.ts[k], List.getElem?_eq_getElem hlt⟩
      obtain ⟨pa, pc, c0, c1, P1⟩ := hc1 k t hx
      obtain ⟨qa, qc, d0, d1, P2⟩ := hc2 k t hx
      have g0 : ∀ w', Below wr.heap.size wr w' → w'.cell? ⟨p1, 3, none⟩ = some (.slice (some ⟨b1, o1, none⟩) s.ts.length tc) := fun w' hw' => cell_keep za hw'
      have g1 : ∀ w', Below wr.heap.size wr w' → w'.cell? ⟨b1, o1 + k * 2, none⟩ = some (.string t.t) := fun w' hw' => cell_keep c0 hw'
      have g2 : ∀ w', Below wr.heap.size wr w' → w'.cell? ⟨b1, o1 + k * 2 + 1, none⟩ = some (.slice pa t.p.length pc) := fun w' hw' => cell_keep c1 hw'
      have k0 : ∀ w', Below wr.heap.size wr w' → w'.cell? ⟨p2, 3, none⟩ = some (.slice (some ⟨b2, o2, none⟩) s.ts.length tc2) := fun w' hw' => cell_keep zb hw'
      have k1 : ∀ w', Below wr.heap.size wr w' → w'.cell? ⟨b2, o2 + k * 2, none⟩ = some (.string t.t) := fun w' hw' => cell_keep d0 hw'
      have k2 : ∀ w', Below wr.heap.size wr w' → w'.cell? ⟨b2, o2 + k * 2 + 1, none⟩ = some (.slice qa t.p.length qc) := fun w' hw' => cell_keep d1 hw'
      have p9 : (k : Int) < (s.ts.length : Int) := by omega
      have q5 : (t.t.toList == t.t.toList) = true := by simp
      have q6 : (t.t.toList != t.t.toList) = false := by simp
      clear ho hc1 hc2 hx
      go_wp2
      refine region_below (by kernel_rfl) (by kernel_rfl) ?_
      repeat
        (first
          | go_big_quiet_skip
          | (go_big_quiet_want; go_big_quiet_op
             first
               | go_big_quiet_on
               | (apply Exists.intro
                  refine ⟨fun w' hw' => ?_, ?_⟩
                  · first
                    | exact rfl
                    | (rw [g0 w' hw']; exact ⟨rfl, rfl⟩)
                    | (rw [g1 w' hw']; exact ⟨rfl, rfl⟩)
                    | (rw [g2 w' hw']; exact ⟨rfl, rfl⟩)
                    | (rw [k0 w' hw']; exact ⟨rfl, rfl⟩)
                    | (rw [k1 w' hw']; exact ⟨rfl, rfl⟩)
                    | (rw [k2 w' hw']; exact ⟨rfl, rfl⟩)
                    | (go_at_call 34; have C := rsame_any _ _ t.p t.p _ (P1.below hw') (P2.below hw'); rw [Pt.eqs_refl] at C; exact C.mono fun e w'' ⟨h1, h2⟩ => ⟨h1, below_trans' hw' h2⟩)
                  go_big_quiet_on)))
      refine wpQuiet_nil ?_
      intro w5 hb5
      have B5 := below_trans' hbel hb5
      replace za := cell_keep za hb5
      replace zb := cell_keep zb hb5
      replace c0 := cell_keep c0 hb5
      replace d0 := cell_keep d0 hb5
      clear g0 g1 g2 k0 k1 k2 P1 P2 c1 d1 ZA ZB
      go_wp2
      go_quiet (fail)
      have B6 := below_dr' B5 nq
      go_wp2
      go_roundw
      case rel => exact ⟨k + 1, by omega, by go_num, B6⟩
      case measure => simp [intOf]; omega
    · replace BW := below_trans' BW hbel
      go_wp2
      go_ret
      exact ⟨rfl, by rw [unhide HP] at *; exact BW⟩
end Go.Proofs.YtonhehhmnobciaaGreat

/-
  The contract of read: the card of a document of a segment that may be.
-/
namespace Go.Proofs.YtonhehhmnobciaaGreat
set_option maxRecDepth 100000
open Go.RowKit Go.WideMaps Go.Maps

/-- A card that is being read: its box, and the row of its words. -/
def Rx (cb : Nat) (w : World) (c : Cd) (vw : Value) (pre : List ByteArray) : Prop :=
  w.heap[cb]? = some (.cells #[.string c.id, .int .i64 c.key, vw] 45 (0, 0)) ∧ w.ownsRow (cb + 1) 9 1 vw pre.length (pre.map Value.string)

theorem Rx.step {cb g n q : Nat} {wr w1 : World} {c : Cd} {vw : Value} {pre : List ByteArray} {x : ByteArray} (h : Rx cb wr c vw pre) (ho : w1.ownsRow (cb + 1) 9 1 (.slice (some ⟨g, 0, none⟩) n q) (pre ++ [x]).length ((pre ++ [x]).map Value.string)) (hg : wr.grownBy w1 vw.ownBlock) :
    Rx cb (w1.setCell ⟨cb, 2, none⟩ (.slice (some ⟨g, 0, none⟩) n q)) c (.slice (some ⟨g, 0, none⟩) n q) (pre ++ [x]) := by
  exact ⟨bset (box_grown h.1 hg (row_ne h.2)) 2 _, row_set ho 2 _⟩

theorem own_three {w : World} {B b : Nat} {e : TypeId} {k n : Nat} {v : Value} {xs : List Value} (h : w.ownsRow B e k v n xs) (hb : b < B) (a0 a1 a2 : Value) : (((w.setCell ⟨b, 0, none⟩ a0).setCell ⟨b, 1, none⟩ a1).setCell ⟨b, 2, none⟩ a2).ownsRow B e k v n xs := by
  have key : ∀ (w : World) (j : Nat) (u : Value), w.ownsRow B e k v n xs → (w.setCell ⟨b, j, none⟩ u).ownsRow B e k v n xs := fun w j u h => own_set h (fun g hg e => by have := (h.lt g hg).1; simp only at e; omega) u
  exact key _ _ _ (key _ _ _ (key _ _ _ h))

theorem Valid.word {s : Sg} {l : List Cd} {so : Bool} (h : Valid s l so) {d k : Nat} {c : Cd} {x : ByteArray} (hc : l[d]? = some c) (hx : c.w[k]? = some x) : ∃ (i : Nat) (t : Tm), s.ts[i]? = some t ∧ t.t = x ∧ (((d : Int), (k : Int)), i) ∈ S.laid l ∧ i < 200 := by
  have hm : x ∈ S.words l := S.mem_words.2 ⟨c, List.mem_of_getElem? hc, List.mem_of_getElem? hx⟩
  obtain ⟨i, hi, e⟩ := List.mem_iff_getElem.1 hm
  have hw : (S.words l)[i]? = some x := by rw [List.getElem?_eq_getElem hi, e]
  refine ⟨i, S.term l x, ?_, rfl, S.mem_laid.2 ⟨d, k, c, x, rfl, hc, hx, hw⟩, by have := h.2.few; omega⟩
  rw [h.1]
  show ((S.words l).map (S.term l))[i]? = _
  rw [List.getElem?_map, hw]
  rfl

set_option maxRecDepth 100000 in
set_option maxHeartbeats 8000000 in
theorem sread_any (ia ka lna ta : Option Addr) (ic kc lnc tc : Nat) (s : Sg) (so : Bool) (l : List Cd) (b n : Nat) (M : DataW Unit) (d : Nat) (c : Cd) (w : World) (h : Sv w (.slice ia s.ids.length ic) (.slice ka s.keys.length kc) (.slice lna s.lens.length lnc) (.slice ta s.ts.length tc) s) (hV : Valid s l so) (hM : Map8 w b n M) (hT : Tel M (S.laid l)) (hc : l[d]? = some c) :
    Calls Tryz.prog 31 #[.agg #[.slice ia s.ids.length ic, .slice ka s.keys.length kc, .slice lna s.lens.length lnc, .slice ta s.ts.length tc, .bool so], .map (some b), .int .i64 (d : Int)] w fun e w' => ∃ vw, e = .returned (.agg #[.string c.id, .int .i64 c.key, vw]) ∧ w'.ownsRow w.heap.size 9 1 vw c.w.length (c.w.map Value.string) ∧ Below w.heap.size w w' := by
  obtain ⟨i9, hi9, hz90, hz91, hz92⟩ := info_parts Tryz.infoS
  obtain ⟨n1, n2, n3, n4⟩ := hV.lens
  have h64 := hV.2.len
  have hd := (List.getElem?_eq_some_iff.1 hc).1
  obtain ⟨a1, a2, a3⟩ := hV.at hc
  have hcw := (S.fits_w (hV.2.fit c (List.mem_of_getElem? hc))).1
  obtain ⟨W, hW⟩ : ∃ W, W = (w.alloc (.cells #[.slice ia s.ids.length ic, .slice ka s.keys.length kc, .slice lna s.lens.length lnc, .slice ta s.ts.length tc, .bool so] 29)).alloc (.cells #[.string ⟨#[]⟩, .int .i64 0, .slice none 0 0] 45) := ⟨_, rfl⟩
  have BW : Below w.heap.size w W := by rw [hW]; exact below_all (below_alloc _ _) _
  have X0 : W.heap[w.heap.size]? = some (.cells #[.slice ia s.ids.length ic, .slice ka s.keys.length kc, .slice lna s.lens.length lnc, .slice ta s.ts.length tc, .bool so] 29 (0, 0)) := by rw [hW, Below.heap_alloc _ _ _ (by simp)]; exact heap_alloc_new w _
  have R0 : W.heap[w.heap.size + 1]? = some (.cells #[.string ⟨#[]⟩, .int .i64 0, .slice none 0 0] 45 (0, 0)) := by
    rw [hW]
    have := heap_alloc_new (w.alloc (.cells #[.slice ia s.ids.length ic, .slice ka s.keys.length kc, .slice lna s.lens.length lnc, .slice ta s.ts.length tc, .bool so] 29)) (.cells #[.string ⟨#[]⟩, .int .i64 0, .slice none 0 0] 45)
    simpa using this
  have HV := h.below BW
  have HW := hide hW
  have MW := map_keep hM (BW.block _ hM.lt)
  have CH := head_any ia ka lna ta ic kc lnc tc s so d _ rfl _ _ W HV a1 a2
  have HVA := hide hV
  have HTE := hide hT
  have HC := hide hc
  have p3 : (d : Int) < (s.lens.length : Int) := by omega
  have hd3 : d < s.lens.length := by omega
  clear hW hV hT hc hM h n1 n2 n3 n4
  go_enter Tryz.func31, Tryz.ntmps31
  go_wp2_with fail
  rw [← unhide HW]
  refine CH.mono ?_
  rintro e w1 ⟨rfl, B1⟩
  have X1 := box_below X0 B1
  have R1 := box_below R0 B1
  have BB := below_trans' BW B1
  have HV1 := HV.below B1
  have M1 := map_keep MW (B1.block _ MW.lt)
  have hz1 : w.heap.size + 1 < w1.heap.size := (Array.getElem?_eq_some_iff.1 R1).1
  have hz2 : w.heap.size < w1.heap.size := by omega
  obtain ⟨a', c', hv', -, -, -, ho3⟩ := HV1.2.2.1.open
  simp only [Value.slice.injEq, true_and] at hv'
  obtain ⟨rfl, rfl⟩ := hv'
  obtain ⟨b3, o3, rfl, hb3, hc3⟩ := ho3 (by omega)
  have e3 := hc3 d (by omega)
  rw [show s.lens.getD d 0 = (c.w.length : Int) by simp [List.getD, a3]] at e3
  have y2 := box_cell X1 (j := 2) rfl
  have y3 := box_cell X1 (j := 3) rfl
  have rx0 : Rx w1.heap.size (w1.alloc (.cells #[.string c.id, .int .i64 c.key, .slice none 0 0] 45)) c (.slice none 0 0) [] := ⟨heap_alloc_new w1 _, World.ownsRow_nil _ _ _ _⟩
  have HTS1 := HV1.2.2.2
  clear B1 X0 R0 CH HV MW hc3 ho3
  go_wp2
  go_loopw [17] (fun iv wr => ∃ (k : Nat) (vw : Value) (pre : List ByteArray), k ≤ c.w.length ∧ iv = .int .i64 k ∧ Hid (pre = c.w.take k) ∧ pre.length ≤ k ∧ Rx w1.heap.size wr c vw pre ∧ Below w1.heap.size w1 wr ∧ w1.heap.size < wr.heap.size) (fun iv _ => c.w.length - (intOf iv).toNat)
  case atStart => exact ⟨0, _, [], Nat.zero_le _, rfl, rfl, Nat.zero_le _, rx0, below_alloc _ _, by simp⟩
  case round =>
    clear rx0 y2 e3
    obtain ⟨k, vw, pre, hk, rfl, HP, hpl, hrx, hbel, hsz⟩ := hrel
    by_cases hlt : k < c.w.length
    · obtain ⟨x, hx⟩ : ∃ x, c.w[k]? = some x := ⟨c.w[k], List.getElem?_eq_getElem hlt⟩
      obtain ⟨i, t, ht, rfl, hlaid, hi200⟩ := (unhide HVA).word (unhide HC) hx
      have hil := (List.getElem?_eq_some_iff.1 ht).1
      obtain ⟨a', c', hv', -, -, -, hoT⟩ := (HTS1.below hbel).open
      simp only [Value.slice.injEq, true_and] at hv'
      obtain ⟨rfl, rfl⟩ := hv'
      obtain ⟨tb, off, rfl, htb, hct⟩ := hoT (by omega)
      obtain ⟨pa, pc, t0, -, -⟩ := hct i t ht
      have MR := map_keep M1 (hbel.block _ M1.lt)
      have lk := run_taken (d := (d : Int)) (k := (k : Int)) (i := i) (MR.drew) (unhide HTE) (WalkArith.wf_i64 (by omega)) (WalkArith.wf_i64 (by omega)) hlaid
      have XR := (hbel.block _ hz2).trans X1
      have s3 := box_cell XR (j := 3) rfl
      have s2 := box_cell hrx.1 (j := 2) rfl
      have f2 := bfro hrx.1 2
      have HTK := hide (take_snoc8 hx)
      have HRX := hide hrx
      have ORW := hrx.2
      have q1 : tb ≠ wr.heap.size := by omega
      have q2 : w.heap.size ≠ wr.heap.size := by omega
      have q3 : w1.heap.size ≠ wr.heap.size := by omega
      have hpl9 : pre.length < 200 := by omega
      obtain ⟨va, vc, hvw, -⟩ := id (Gl.owned hrx.2)
      subst hvw
      have hne : (Value.slice va pre.length vc).ownBlock ≠ some w1.heap.size := fun e => by have := (ORW.lt _ e).1; omega
      clear hx ht hct hoT hrx XR MR
      go_wp2
      go_region_law
        ((refine step_append_lies _ (by rfl) _ _ _ (by rfl) (w1.heap.size + 1) 9 i9 _ 1 16 Tryz.underlying25 hi9 hz90 hz91 hz92 rfl (by omega) (.slice va pre.length vc) _ _ (by rfl) ((ORW.alloc _).drew)
                  ⟨wr.heap.size, 0, none⟩ 1 1 [.string t.t] (by rfl) (by rfl) (World.news_of_block (cs := #[.string t.t]) (t := 9) (fr := (0, 0)) (heap_alloc_new wr _)) (by simp [Value.oneCell'])
                  (by omega) (by unfold maxLen; omega) (by omega) (by simp; omega) (wr.heap.size + 1) (by simp) ?_; intro g5 q5 w5 O5 g5' l5 lt5; have s5 := (g5'.cell_far ⟨w1.heap.size, 2, none⟩ (by simp; omega) (Ne.symm hne)).trans (cell_keep s2 (below_alloc wr _).drew); have f5 := (g5'.frozen_far ⟨w1.heap.size, 2, none⟩ (by simp; omega) (Ne.symm hne)).trans (frozen_keep8 f2 (below_alloc wr _).drew hsz)))
      all_goals
        have K5 : Rx w1.heap.size (w5.setCell ⟨w1.heap.size, 2, none⟩ (.slice (some ⟨g5, 0, none⟩) (pre.length + 1) q5)) c (.slice (some ⟨g5, 0, none⟩) (pre.length + 1) q5) (pre ++ [t.t]) := (unhide HRX).step (by simpa using O5) ((grown_below (below_alloc wr _).drew _).trans g5')
        have B5 : Below w1.heap.size w1 (w5.setCell ⟨w1.heap.size, 2, none⟩ (.slice (some ⟨g5, 0, none⟩) (pre.length + 1) q5)) := ((((hbel.alloc (by omega) _).drew).grown g5' (by simp; omega) (fun j hj => by have := (ORW.lt j hj).1; omega))).setCell (Nat.le_refl _) _
        have hz5 : w1.heap.size < (w5.setCell ⟨w1.heap.size, 2, none⟩ (.slice (some ⟨g5, 0, none⟩) (pre.length + 1) q5)).heap.size := by have := g5'.size; simp at this ⊢; omega
        have HK5 := hide K5
        clear K5 O5 g5' l5 lt5 s5 f5 lk s3 s2 f2 ORW HRX t0
        go_wp2
        go_roundw
        case rel => exact ⟨k + 1, _, pre ++ [t.t], by omega, by go_num, by (show _ = _; rw [unhide HTK, unhide HP]), by simp; omega, unhide HK5, B5, hz5⟩
        case measure => simp [intOf]; omega
    · have hpre : pre = c.w := by rw [unhide HP, List.take_of_length_le (by omega)]
      subst hpre
      have RR := (hbel.block _ hz1).trans R1
      obtain ⟨va, vc, hvw, -⟩ := id (Gl.owned hrx.2)
      subst hvw
      have s0 := box_cell hrx.1 (j := 0) rfl
      have s1 := box_cell hrx.1 (j := 1) rfl
      have s2 := box_cell hrx.1 (j := 2) rfl
      have r0 := box_cell RR (j := 0) rfl
      have r1 := box_cell RR (j := 1) rfl
      have r2 := box_cell RR (j := 2) rfl
      have f0 := bfro RR 0
      have f1 := bfro RR 1
      have f2 := bfro RR 2
      have OE := hide (own_three (own_mono hrx.2 (B' := w.heap.size + 2) (by omega)) (b := w.heap.size + 1) (by omega) (.string c.id) (.int .i64 c.key) (.slice va c.w.length vc))
      have BE := set3_below (b := w.heap.size + 1) (below_trans' BB hbel) (by omega) (.string c.id) (.int .i64 c.key) (.slice va c.w.length vc)
      clear hrx RR HP
      go_wp2
      exact bodyPost_ret (v := .agg #[.string c.id, .int .i64 c.key, .slice va c.w.length vc]) (by simp [results, Tryz.results31, go_sem, r0, r1, r2]) rfl ⟨_, rfl, own_mono (unhide OE) (by omega), BE⟩
end Go.Proofs.YtonhehhmnobciaaGreat

/-
  The contracts of May, Cards, Card, Words and Find, at a segment that may be.
-/
namespace Go.Proofs.YtonhehhmnobciaaGreat
set_option maxRecDepth 100000
open Go.RowKit Go.WideMaps Go.Maps

set_option maxRecDepth 100000 in
set_option maxHeartbeats 4000000 in
theorem segMay_any (ia ka lna ta : Option Addr) (ic kc lnc tc : Nat) (s : Sg) (so : Bool) (l : List Cd) (w : World) (h : Sv w (.slice ia s.ids.length ic) (.slice ka s.keys.length kc) (.slice lna s.lens.length lnc) (.slice ta s.ts.length tc) s) (hV : Valid s l so) :
    Calls Tryz.prog 14 #[.agg #[.slice ia s.ids.length ic, .slice ka s.keys.length kc, .slice lna s.lens.length lnc, .slice ta s.ts.length tc, .bool so]] w fun e w' => e = .returned (.bool true) ∧ Below w.heap.size w w' := by
  obtain ⟨W, hW⟩ : ∃ W, W = w.alloc (.cells #[.slice ia s.ids.length ic, .slice ka s.keys.length kc, .slice lna s.lens.length lnc, .slice ta s.ts.length tc, .bool so] 29) := ⟨_, rfl⟩
  have BW : Below w.heap.size w W := by rw [hW]; exact below_alloc _ _
  have X0 : W.heap[w.heap.size]? = some (.cells #[.slice ia s.ids.length ic, .slice ka s.keys.length kc, .slice lna s.lens.length lnc, .slice ta s.ts.length tc, .bool so] 29 (0, 0)) := by rw [hW]; exact heap_alloc_new w _
  have HV := h.below BW
  have HW := hide hW
  clear hW
  have C := look_any ia ka lna ta ic kc lnc tc s so l W HV hV
  clear hV h HV X0
  go_enter Tryz.func14, Tryz.ntmps14
  go_wp2_with fail
  rw [← unhide HW]
  refine C.mono ?_
  rintro e w1 ⟨b, M, rfl, -, -, B1⟩
  have BB := below_trans' BW B1
  go_wp2
  go_ret
  exact ⟨rfl, BB⟩

/-- A row of cards of the call's own, the words of each in a row of its own. -/
def CW (B : Nat) (w : World) (ps : List (Cd × Pts)) : Prop := ∀ p ∈ ps, w.ownsRow B 9 1 (sv p.2) p.1.w.length (p.1.w.map Value.string)

set_option maxRecDepth 100000 in
set_option maxHeartbeats 4000000 in
theorem cards_any (ia ka lna ta : Option Addr) (ic kc lnc tc : Nat) (s : Sg) (so : Bool) (l : List Cd) (w : World) (h : Sv w (.slice ia s.ids.length ic) (.slice ka s.keys.length kc) (.slice lna s.lens.length lnc) (.slice ta s.ts.length tc) s) (hV : Valid s l so) :
    Calls Tryz.prog 10 #[.agg #[.slice ia s.ids.length ic, .slice ka s.keys.length kc, .slice lna s.lens.length lnc, .slice ta s.ts.length tc, .bool so]] w fun e w' => ∃ v', e = .returned v' ∧ Cs w' v' l ∧ Below w.heap.size w w' := by
  obtain ⟨i0, hi, hz0, hz1, hz2⟩ := info_parts Tryz.infoC
  obtain ⟨W, hW⟩ : ∃ W, W = w.alloc (.cells #[.slice ia s.ids.length ic, .slice ka s.keys.length kc, .slice lna s.lens.length lnc, .slice ta s.ts.length tc, .bool so] 29) := ⟨_, rfl⟩
  have BW : Below w.heap.size w W := by rw [hW]; exact below_alloc _ _
  have X0 : W.heap[w.heap.size]? = some (.cells #[.slice ia s.ids.length ic, .slice ka s.keys.length kc, .slice lna s.lens.length lnc, .slice ta s.ts.length tc, .bool so] 29 (0, 0)) := by rw [hW]; exact heap_alloc_new w _
  have HV := h.below BW
  have HW := hide hW
  clear hW
  have C := look_any ia ka lna ta ic kc lnc tc s so l W HV hV
  have HVA := hide hV
  have N1 := hide hV.lens.1
  have h64 := hV.2.len
  have hn64 : s.ids.length ≤ 64 := by have := unhide N1; omega
  clear hV h
  go_enter Tryz.func10, Tryz.ntmps10
  go_wp2_with fail
  rw [← unhide HW]
  refine C.mono ?_
  rintro e w1 ⟨b, M, rfl, M1, T1, B1⟩
  have BB := below_trans' BW B1
  have X1 := box_below X0 B1
  have HV1 := HV.below B1
  have HT1 := hide T1
  have hz1' : w.heap.size < w1.heap.size := (Array.getElem?_eq_some_iff.1 X1).1
  have x0 := box_cell X1 (j := 0) rfl
  have x1 := box_cell X1 (j := 1) rfl
  have x2 := box_cell X1 (j := 2) rfl
  have x3 := box_cell X1 (j := 3) rfl
  have x4 := box_cell X1 (j := 4) rfl
  clear C HV X0 B1 T1
  go_wp2
  go_loopw [5, 17] (fun ov iv wr => ∃ (k : Nat) (ps : List (Cd × Pts)), k ≤ s.ids.length ∧ iv = .int .i64 k ∧ Hid (ps.map (·.1) = l.take k) ∧ ps.length ≤ k ∧ wr.ownsRow w1.heap.size 45 3 ov ps.length (ps.flatMap encC) ∧ CW w1.heap.size wr ps ∧ Below w1.heap.size w1 wr) (fun _ iv _ => s.ids.length - (intOf iv).toNat)
  case atStart => exact ⟨0, [], Nat.zero_le _, rfl, rfl, Nat.zero_le _, World.ownsRow_nil _ _ _ _, (fun p hp => by cases hp), Below.refl _ _⟩
  case round =>
    clear x0 x1 x2 x3 x4
    obtain ⟨k, ps, hk, rfl, HP, hpl, hown, hcw, hbel⟩ := hrel
    by_cases hlt : k < s.ids.length
    · obtain ⟨c, hx⟩ : ∃ c, l[k]? = some c := ⟨l[k]'(by have := unhide N1; omega), List.getElem?_eq_getElem _⟩
      have XR := box_below X1 hbel
      have CR := sread_any ia ka lna ta ic kc lnc tc s so l b _ M k c wr (HV1.below hbel) (unhide HVA) (map_keep M1 (hbel.block _ M1.lt)) (unhide HT1) hx
      have HTS := hide (take_snoc8 hx)
      have hbs := hbel.size
      have x0 := box_cell XR (j := 0) rfl
      have x1 := box_cell XR (j := 1) rfl
      have x2 := box_cell XR (j := 2) rfl
      have x3 := box_cell XR (j := 3) rfl
      have x4 := box_cell XR (j := 4) rfl
      clear XR hx
      go_wp2_with fail
      refine CR.mono ?_
      rintro e w2 ⟨vw, rfl, O2, B2⟩
      obtain ⟨va, vc, hvw, -⟩ := id (Gl.owned O2)
      subst hvw
      have OC := own_below hown B2
      have CW2 : CW w1.heap.size w2 ps := fun p hp => own_below (hcw p hp) B2
      have BB2 := hbel.trans (B2.mono hbs)
      have hbs2 := B2.size
      clear CR hown hcw hbel B2 x0 x1 x2 x3 x4
      go_wp2_with (at_builtin; refine append_oneF rfl _ _ 22 rfl Tryz.underlying22 hi hz0 hz1 hz2 rfl (by decide) encC_len encC_one (pre := ps) (c, (va, c.w.length, vc)) rfl rfl rfl (by simp) OC (by omega) (by omega) (by decide) ?_; intro g5 q5 w5 O5 g5' l5)
      have B5 := BB2.grown g5' (by omega) (fun j hj => (OC.lt j hj).1)
      have CW5 : CW w1.heap.size w5 (ps ++ [(c, (va, c.w.length, vc))]) := fun p hp => by
        rcases List.mem_append.1 hp with hp | hp
        · exact World.ownsRow.kept (CW2 p hp) g5' (own_apart (CW2 p hp) OC (by decide))
        · simp only [List.mem_singleton] at hp
          subst hp
          exact World.ownsRow.kept (own_mono O2 hbs) g5' (own_apart (own_mono O2 hbs) OC (by decide))
      have HCW := hide CW5
      clear g5' l5 OC CW2 CW5 O2
      go_roundw
      case rel => exact ⟨k + 1, ps ++ [(c, (va, c.w.length, vc))], by omega, by go_num, by (show _ = _; rw [unhide HTS, List.map_append, unhide HP]; rfl), by simp; omega, O5, unhide HCW, B5⟩
      case measure => simp [intOf]; omega
    · have hps : ps.map (·.1) = l := by rw [unhide HP, List.take_of_length_le (by have := unhide N1; omega)]
      have HC := Cs.own hown (fun p hp => Gl.owned (hcw p hp))
      rw [hps] at HC
      clear HP
      go_wp2
      go_ret
      exact ⟨_, rfl, HC, below_trans' BB hbel⟩

end Go.Proofs.YtonhehhmnobciaaGreat
