/-
  Texts put together: Key8, Lay8, Head8, Heads8, Heads9, Lay9, Look8, Words9, Look9, PlainV11, PlainG11, PlainT11, PlainK11, PlainL11, PlainM11, Read8, SegA8, Few9, Has8, SameS8.
-/
import Derived.Test.YtnahjaloodeicaaGreatM15
import Derived.Test.YtnahjaloodeicaaGreatM10
import Derived.DeepKeys4
import Derived.Test.YtnahjaloodeicaaGreatM07
import Derived.Test.YtnahjaloodeicaaGreatM14
import Derived.Deep.RegionLaw
import Derived.Test.YtnahjaloodeicaaGreatM12
/-
  The map from places (a document, a place in it) to words: its keys are structs ('Tel': what it tells).
-/
namespace Go.Proofs.YtnahjaloodeicaaGreat
set_option maxRecDepth 100000
open Go.RowKit Go.WideMaps Go.Maps

theorem laid8 : laidOutB Tryz.prog = true := by kernel_rfl
theorem row8 : (100 : TypeId) < Tryz.prog.types.size := of_decide_eq_true (by kernel_rfl)
theorem deep8 : Tryz.prog.keyTypeAt 2 100 = true := by kernel_rfl
theorem keyed8 : Keyed Tryz.prog 100 := Keyed.of_law (deep_law_laid laid8 (m := 2) (by omega) row8 deep8 (by rw [Tryz.underlying100]))

theorem lits3 (n : Nat) (d : Int) (hd : (Lit.int .i64 d).wf = true) : Tryz.prog.keyLits (n + 1) 3 [.int .i64 d] = some [.int .i64 d] := by
  unfold Program.keyLits
  rw [Tryz.underlying3]
  simp only [hd, and_self, if_true]
theorem lits8 (n : Nat) (d k : Int) (hd : (Lit.int .i64 d).wf = true) (hk : (Lit.int .i64 k).wf = true) : Tryz.prog.keyLits (n + 2) 100 [.int .i64 d, .int .i64 k] = some [.int .i64 d, .int .i64 k] := by
  have h2 : Tryz.prog.cellsOf 100 = 2 := by kernel_rfl
  have h3 : Tryz.prog.cellsOf 3 = 1 := by kernel_rfl
  unfold Program.keyLits
  rw [Tryz.underlying100]
  simp only [h2, List.length_cons, List.length_nil]
  rw [if_pos ⟨trivial, by simp⟩]
  simp only [List.mapM_cons, List.mapM_nil, h3, List.drop_zero, List.take_succ_cons, List.take_zero, List.drop_succ_cons, lits3 n d hd, lits3 n k hk]
  rfl
theorem key8 (d k : Int) (hd : (Lit.int .i64 d).wf = true) (hk : (Lit.int .i64 k).wf = true) : ∃ l, keyOf Tryz.prog 100 (.agg #[.int .i64 d, .int .i64 k]) = some l := by
  have h1 : Tryz.prog.keyType 100 = true := by kernel_rfl
  have h2 : Tryz.prog.cellsOf 100 = 2 := by kernel_rfl
  have hpos : 0 < Tryz.prog.types.size := Nat.lt_of_le_of_lt (Nat.zero_le _) row8
  have h4 : (Value.agg #[.int .i64 d, .int .i64 k]).formed Tryz.prog 100 = true := by simp [Value.formed, Tryz.underlying100, h2]
  have h5 := lits8 (Tryz.prog.types.size - 1) d k hd hk
  rw [show Tryz.prog.types.size - 1 + 2 = Tryz.prog.types.size + 1 by omega] at h5
  unfold keyOf
  rw [Tryz.underlying100, h1, h4]
  simp only [Bool.and_self, if_true]
  exact ⟨_, by rw [show (Value.agg #[.int .i64 d, .int .i64 k]).cells.toList = [.int .i64 d, .int .i64 k] from rfl, h5]; rfl⟩

abbrev KO (d k : Int) (l : Lit) : Prop := keyOf Tryz.prog 100 (.agg #[.int .i64 d, .int .i64 k]) = some l
/-- The map tells of the places in dn, and of no other one, which word stands there. -/
def Tel (M : DataW Unit) (dn : List S.Spot) : Prop :=
  IsMap M ∧ (∀ x ∈ dn, ∀ l, KO x.1.1 x.1.2 l → Maps.has M l = true ∧ M.atKey l (.lit (.int .i64 0)) = .lit (.int .i64 x.2)) ∧ (∀ d k l, KO d k l → Maps.has M l = true → ∃ i, ((d, k), i) ∈ dn) ∧ Maps.size M = dn.length

theorem Tel.start : Tel (.map []) [] := ⟨isMap_empty, (fun x hx => by cases hx), (fun d k l _ h => by cases h), rfl⟩
theorem Tel.free {M : DataW Unit} {dn : List S.Spot} (h : Tel M dn) {d k : Int} {l : Lit} (hl : KO d k l) (hf : ∀ i, ((d, k), i) ∉ dn) : Maps.has M l = false := by
  cases hb : Maps.has M l with
  | false => rfl
  | true =>
    obtain ⟨i, hi⟩ := h.2.2.1 d k l hl hb
    exact absurd hi (hf i)
theorem Tel.step {M : DataW Unit} {dn : List S.Spot} (h : Tel M dn) (ht : Tidy M) {d k : Int} {l : Lit} (hl : KO d k l) (hf : ∀ i, ((d, k), i) ∉ dn) (i : Nat) : Tel (M.put l (.lit (.int .i64 i))) (dn ++ [((d, k), i)]) := by
  have hkl := keyed8.key hl
  have hne : ∀ {d' k' : Int} {l' : Lit}, KO d' k' l' → (d', k') ≠ (d, k) → l' ≠ l := by
    intro d' k' l' h' hn e
    subst e
    have := keyed8.inj h' hl
    simp only [Value.agg.injEq, Array.mk.injEq, List.cons.injEq, Value.int.injEq, true_and, and_true] at this
    exact hn (by rw [this.1, this.2])
  have hfr := h.free hl hf
  refine ⟨h.1.put _ _, fun x hx l' hl' => ?_, fun d' k' l' hl' hh => ?_, ?_⟩
  · rcases List.mem_append.1 hx with hx | hx
    · have hn : (x.1.1, x.1.2) ≠ (d, k) := fun e => hf x.2 (by rw [← e]; exact hx)
      rw [has_put_other (hne hl' hn), atKey_put_other (hne hl' hn)]
      exact h.2.1 x hx l' hl'
    · simp only [List.mem_singleton] at hx
      subst hx
      have e : l' = l := by rw [KO] at hl hl'; simp only at hl'; rw [hl] at hl'; exact (Option.some.inj hl').symm
      subst e
      rw [has_put_same h.1 hkl, atKey_put_same h.1 hkl]
      exact ⟨rfl, rfl⟩
  · by_cases e : (d', k') = (d, k)
    · simp only [Prod.mk.injEq] at e
      obtain ⟨rfl, rfl⟩ := e
      exact ⟨i, by simp⟩
    · rw [has_put_other (hne hl' e)] at hh
      obtain ⟨i', hi'⟩ := h.2.2.1 d' k' l' hl' hh
      exact ⟨i', List.mem_append_left _ hi'⟩
  · rw [size_put ht, hfr, h.2.2.2]
    simp

/-- All that could be read can be read, as it was. -/
def Stays (w w' : World) : Prop := ∀ (a : Addr) (u : Value), w.cell? a = some u → w'.cell? a = some u
theorem Stays.refl (w : World) : Stays w w := fun _ _ h => h
theorem Stays.trans {w w1 w2 : World} (h : Stays w w1) (k : Stays w1 w2) : Stays w w2 := fun a u hu => k a u (h a u hu)
theorem Stays.of_below {w w' : World} (h : Below w.heap.size w w') : Stays w w' := fun _ _ hu => cell_keep hu h
theorem Stays.of_map {w w' : World} {b : Nat} {es : Array MapEntry} {cl : Nat} (hb : w.heap[b]? = some (.map es cl)) (h : w.grownBy w' (some b)) : Stays w w' := fun a u hu => by
  have hlt := World.block_lt_of_cell? w a hu
  have hne : some a.block ≠ some b := by
    intro e
    simp only [Option.some.injEq] at e
    simp [World.cell?, e, hb] at hu
  rw [World.cell?_of_block (h.block _ hlt hne)]
  exact hu
theorem Sl.stays {k : IntKind} {w w' : World} {v : Value} {zs : List Int} (h : Sl k w v zs) (hs : Stays w w') : Sl k w' v zs := by
  obtain ⟨a, cap, hv, hl, hm, hn, hc⟩ := h
  exact ⟨a, cap, hv, hl, hm, hn, fun x hx i hi => hs _ _ (hc x hx i hi)⟩
theorem Gl.stays {α : Type} {f : α → Value} {w w' : World} {v : Value} {l : List α} (h : Gl f w v l) (hs : Stays w w') : Gl f w' v l := by
  obtain ⟨a, cap, hv, hl, hm, hn, hc⟩ := h
  exact ⟨a, cap, hv, hl, hm, hn, fun x hx i y hi => hs _ _ (hc x hx i y hi)⟩
theorem Pl.stays {w w' : World} {v : Value} {L : List Pt} (h : Pl w v L) (hs : Stays w w') : Pl w' v L := by
  obtain ⟨a, cap, hv, hl, hm, hn, hc⟩ := h
  refine ⟨a, cap, hv, hl, hm, hn, fun x hx i p hi => ?_⟩
  obtain ⟨dv, h0, h1, h2⟩ := hc x hx i p hi
  exact ⟨dv, hs _ _ h0, hs _ _ h1, h2.stays hs⟩
theorem Kl.stays {α : Type} {f : α → List Value} {k : Nat} {w w' : World} {v : Value} {l : List α} (h : Kl f k w v l) (hs : Stays w w') : Kl f k w' v l := by
  obtain ⟨a, cap, hv, hl, hm, hn, hc⟩ := h
  exact ⟨a, cap, hv, hl, hm, hn, fun x hx i y hi j u hu => hs _ _ (hc x hx i y hi j u hu)⟩
theorem Ts.stays {w w' : World} {v : Value} {L : List Tm} (h : Ts w v L) (hs : Stays w w') : Ts w' v L := by
  obtain ⟨ps, h1, h2, h3⟩ := h
  exact ⟨ps, h1.stays hs, h2, fun p hp => (h3 p hp).stays hs⟩
theorem Sv.stays {w w' : World} {iv kv lv tv : Value} {s : Sg} (h : Sv w iv kv lv tv s) (hs : Stays w w') : Sv w' iv kv lv tv s := ⟨h.1.stays hs, h.2.1.stays hs, h.2.2.1.stays hs, h.2.2.2.stays hs⟩

abbrev Map8 (w : World) (b n : Nat) (M : DataW Unit) : Prop := w.ownsMap (H := Unit) Tryz.prog 100 (plainElem Tryz.prog 3) b n M

/-- '_, taken := stands[here]' at a place that is free. -/
theorem lookup_free {ops : Array Oper} {rest : List Oper} {o : Oper} {a : Act} {Q : Exit → Act → World → Prop} {w : World} {b n : Nat} {M : DataW Unit} {dn : List S.Spot} {d k : Int} (hg : o.guard = none) (m x : Operand) (hop : o.op = Op.lookup 61 m x true) (hm : a.eval m = .map (some b))
    (ho : Map8 w b n M) (hT : Tel M dn) (hd : (Lit.int .i64 d).wf = true) (hk : (Lit.int .i64 k).wf = true) (hf : ∀ i, ((d, k), i) ∉ dn) (hx : a.eval x = .agg #[.int .i64 d, .int .i64 k])
    (hK : ∀ c : Int, wpList Tryz.prog ops Q rest (a.put o.dst (.tuple #[.int .i64 c, .bool false])) w) : wpList Tryz.prog ops Q (o :: rest) a w := by
  obtain ⟨l, hl⟩ := key8 d k hd hk
  refine wpList_lookup_own_ok_int _ hg m x _ hop 100 3 .i64 keyed8 Tryz.underlying61 Tryz.underlying3 (zero3 _) b n M hm ho _ _ hx hl ?_
  intro c _ _
  rw [hT.free hl hf]
  exact hK c

/-- 'stands[here]' at a place that is taken. -/
theorem run_taken {w : World} {b n : Nat} {M : DataW Unit} {dn : List S.Spot} {d k : Int} {i : Nat} (ho : Map8 w b n M) (hT : Tel M dn) (hd : (Lit.int .i64 d).wf = true) (hk : (Lit.int .i64 k).wf = true) (hi : ((d, k), i) ∈ dn) :
    (Instr.lookup 61 (.map (some b)) (.agg #[.int .i64 d, .int .i64 k]) false).run Tryz.prog w = .ok (.int .i64 (i : Int)) w := by
  obtain ⟨l, hl⟩ := key8 d k hd hk
  obtain ⟨c, hc, hat, _⟩ := ho.lookup_int keyed8 Tryz.underlying61 Tryz.underlying3 (zero3 _) hl
  rw [(hT.2.1 _ hi l hl).2] at hat
  simp only [DataW.lit.injEq, Lit.int.injEq, true_and] at hat
  rw [hc, ← hat]
end Go.Proofs.YtnahjaloodeicaaGreat

/-
  The contract of lay: a word put down at all of its places, which are free.
-/
namespace Go.Proofs.YtnahjaloodeicaaGreat
set_option maxRecDepth 100000
open Go.RowKit Go.WideMaps Go.Maps

theorem grown_trans' {w w1 w2 : World} {b : Nat} (h : w.grownBy w1 (some b)) (k : w1.grownBy w2 (some b)) : w.grownBy w2 (some b) := h.trans k
theorem grown_all {w w1 : World} {b : Nat} (h : w.grownBy w1 (some b)) (o : Obj) : w.grownBy (w1.alloc o) (some b) := h.trans (World.grownBy_alloc _ _ _)
theorem map_block {w : World} {b n : Nat} {M : DataW Unit} (h : Map8 w b n M) : ∃ es cl, w.heap[b]? = some (.map es cl) := by
  obtain ⟨es, cl, h1, -⟩ := h
  exact ⟨es, cl, h1⟩

theorem map_split {α β : Type} (f : α → β) (z : List α) (j : Nat) (h : j < z.length) : z.map f = (z.take j).map f ++ f z[j] :: (z.drop (j + 1)).map f := by
  rw [← List.map_cons, ← List.map_append, ← List.drop_eq_getElem_cons h, List.take_append_drop]

theorem free_at {dn : List S.Spot} {L : List Pt} {i k j : Nat} {p : Pt} {x : Int} (hnd : ((dn ++ L.flatMap (S.sp i)).map (·.1)).Nodup) (hk : L[k]? = some p) (hj : p.a[j]? = some x) : ∀ i', ((p.d, x), i') ∉ dn ++ (L.take k).flatMap (S.sp i) ++ (p.a.take j).map (fun y => ((p.d, y), i)) := by
  intro i' hi'
  obtain ⟨hkl, rfl⟩ := List.getElem?_eq_some_iff.1 hk
  obtain ⟨hjl, rfl⟩ := List.getElem?_eq_some_iff.1 hj
  have e : dn ++ L.flatMap (S.sp i) = (dn ++ (L.take k).flatMap (S.sp i) ++ (L[k].a.take j).map (fun y => ((L[k].d, y), i))) ++ (((L[k].d, L[k].a[j]), i) :: ((L[k].a.drop (j + 1)).map (fun y => ((L[k].d, y), i)) ++ (L.drop (k + 1)).flatMap (S.sp i))) := by
    have e1 : L = L.take k ++ (L[k] :: L.drop (k + 1)) := by rw [← List.drop_eq_getElem_cons hkl, List.take_append_drop]
    have e2 : S.sp i L[k] = (L[k].a.take j).map (fun y => ((L[k].d, y), i)) ++ (((L[k].d, L[k].a[j]), i) :: (L[k].a.drop (j + 1)).map (fun y => ((L[k].d, y), i))) := by
      exact map_split _ _ _ hjl
    conv => lhs; rw [e1, List.flatMap_append, List.flatMap_cons, e2]
    simp [List.append_assoc]
  rw [e, List.map_append, List.nodup_append] at hnd
  exact hnd.2.2 (L[k].d, L[k].a[j]) (List.mem_map.2 ⟨_, hi', rfl⟩) (L[k].d, L[k].a[j]) (by simp) rfl

set_option maxRecDepth 100000 in
set_option maxHeartbeats 4000000 in
theorem lay_any (b : Nat) (lv : Value) (lens : List Int) (i : Nat) (pv : Value) (L : List Pt) (w : World) (M0 : DataW Unit) (dn : List S.Spot) (ho0 : Map8 w b dn.length M0) (hT0 : Tel M0 dn) (hl : Sl .i64 w lv lens) (hp : Pl w pv L) (hne : 0 < L.length) (hmay : Q.may L = true)
    (hnd : ((dn ++ L.flatMap (S.sp i)).map (·.1)).Nodup) (hin : ∀ p ∈ L, ∀ k ∈ p.a, ∃ d : Nat, p.d = d ∧ d < 64 ∧ 0 ≤ k ∧ k < 120 ∧ ∃ z, lens[d]? = some z ∧ k < z) (hbig : (dn ++ L.flatMap (S.sp i)).length ≤ 100000) (hi : i ≤ 1000) :
    Calls Tryz.prog 54 #[.map (some b), lv, .int .i64 (i : Int), pv] w fun e w' => e = .returned (.bool true) ∧ ∃ M', Map8 w' b (dn ++ L.flatMap (S.sp i)).length M' ∧ Tel M' (dn ++ L.flatMap (S.sp i)) ∧ w.grownBy w' (some b) := by
  obtain ⟨a, cap, rfl, hpl, hpm, hpa, hpo⟩ := hp.open
  obtain ⟨a2, cap2, rfl, hll, hlm, hla, hlo⟩ := hl.open
  have HT0 := hide hT0
  have HIN := hide hin
  have HND := hide hnd
  have CM := pmay_any _ _ _ hp
  rw [hmay] at CM
  have h0 : ((L.length : Int) == 0) = false := beq_eq_false_iff_ne.2 (by omega)
  clear hT0 hin hnd
  go_enter Tryz.func54, Tryz.ntmps54
  go_wp2_with (go_at_call 75; refine CM.mono ?_; rintro e w1 ⟨rfl, B1⟩)
  have M1 : Map8 w1 b dn.length M0 := map_keep ho0 (B1.block _ ho0.lt)
  have g1 : w.grownBy w1 (some b) := grown_below B1 _
  clear B1 CM hp hl
  go_loopw [26] (fun iv wr => ∃ (k : Nat) (M : DataW Unit) (dk : List S.Spot), k ≤ L.length ∧ iv = .int .i64 k ∧ Hid (dk = dn ++ (L.take k).flatMap (S.sp i)) ∧ Map8 wr b dk.length M ∧ Hid (Tel M dk) ∧ w.grownBy wr (some b)) (fun iv _ => L.length - (intOf iv).toNat)
  case atStart => exact ⟨0, M0, dn, Nat.zero_le _, rfl, by (show _ = _; simp), M1, HT0, g1⟩
  case round =>
    clear M1 g1
    obtain ⟨k, M, dk, hk, rfl, HD, hown, HT, hg⟩ := hrel
    have hSt := Stays.of_map (map_block ho0).choose_spec.choose_spec hg
    by_cases hlt : k < L.length
    · obtain ⟨bb, off, rfl, hbb, hc⟩ := hpo (by omega)
      obtain ⟨p, hx⟩ : ∃ p, L[k]? = some p := ⟨L[k], List.getElem?_eq_getElem hlt⟩
      obtain ⟨da, dc, c0, c1, S2⟩ := hc k p hx
      have d0 := hSt _ _ c0
      have d1 := hSt _ _ c1
      have HX := hide hx
      have hpb : wr.heap.size < (wr.alloc (.cells #[.int .i64 p.d, .slice da p.a.length dc] 58)).heap.size := by simp
      obtain ⟨sa, sc, hv', hsl, hsm, -, hoA⟩ := S2.open
      simp only [Value.slice.injEq, true_and] at hv'
      obtain ⟨rfl, rfl⟩ := hv'
      have MW := hown.alloc (.cells #[.int .i64 p.d, .slice da p.a.length dc] 58)
      have GW := grown_all hg (.cells #[.int .i64 p.d, .slice da p.a.length dc] 58)
      have zW : (wr.alloc (.cells #[.int .i64 p.d, .slice da p.a.length dc] 58)).cell? ⟨wr.heap.size, 0, none⟩ = some (.int .i64 p.d) := by simp
      have HPA : Hid (∀ x ∈ p.a, ∃ d : Nat, p.d = d ∧ d < 64 ∧ 0 ≤ x ∧ x < 120 ∧ ∃ z, lens[d]? = some z ∧ x < z) := unhide HIN p (List.mem_of_getElem? hx)
      rename World => w9
      clear hc c0 c1 hx hown hg
      go_wp2
      go_loopw [33] (fun jv wr => ∃ (j : Nat) (M : DataW Unit) (dj : List S.Spot), j ≤ p.a.length ∧ jv = .int .i64 j ∧ Hid (dj = dk ++ (p.a.take j).map (fun y => ((p.d, y), i))) ∧ Map8 wr b dj.length M ∧ Hid (Tel M dj) ∧ w.grownBy wr (some b) ∧ wr.cell? ⟨w9.heap.size, 0, none⟩ = some (.int .i64 p.d)) (fun jv _ => p.a.length - (intOf jv).toNat)
      case atStart => exact ⟨0, M, dk, Nat.zero_le _, rfl, by (show _ = _; simp), MW, HT, GW, zW⟩
      case round =>
        clear MW GW zW hSt d0 d1 HT
        obtain ⟨j, M2, dj, hj, rfl, HDJ, hown, HT, hg, zp⟩ := hrel
        have hSt := Stays.of_map (map_block ho0).choose_spec.choose_spec hg
        by_cases hlt2 : j < p.a.length
        · obtain ⟨b1, off1, rfl, hb1, hc1⟩ := hoA (by omega)
          obtain ⟨x, hx⟩ : ∃ x, p.a[j]? = some x := ⟨p.a[j], List.getElem?_eq_getElem hlt2⟩
          have e0 : wr.cell? ⟨b1, off1 + j, none⟩ = some (.int .i64 x) := by
            have := hSt _ _ (hc1 j hlt2)
            simpa [List.getD, hx] using this
          obtain ⟨d, hpd, hd64, hx0, hx1, z, hz, hxz⟩ := unhide HPA x (List.mem_of_getElem? hx)
          have hdl := (List.getElem?_eq_some_iff.1 hz).1
          obtain ⟨b2, off2, rfl, hb2, hc2⟩ := hlo (by omega)
          have e1 : wr.cell? ⟨b2, off2 + d, none⟩ = some (.int .i64 z) := by
            have := hSt _ _ (hc2 d hdl)
            simpa [List.getD, hz] using this
          have HF : Hid (∀ i', (((d : Int), x), i') ∉ dj) := by
            intro i' hi'
            rw [unhide HDJ, unhide HD, ← hpd] at hi'
            exact free_at (unhide HND) (unhide HX) hx i' hi'
          have HXJ := hide hx
          have HLT := hide hlt2
          have hwd : (Lit.int .i64 (d : Int)).wf = true := WalkArith.wf_i64 (by omega)
          have hwx : (Lit.int .i64 x).wf = true := by
            obtain ⟨xn, rfl⟩ := Int.eq_ofNat_of_zero_le hx0
            exact WalkArith.wf_i64 (by omega)
          rw [hpd] at zp
          have HPD := hide hpd
          have hdl' : (d : Int) < (lens.length : Int) := by omega
          have hbj : dj.length ≤ 100000 := by
            have e9 := unhide HDJ
            rw [unhide HD] at e9
            have e8 : dj.length ≤ (dn ++ L.flatMap (S.sp i)).length := by
              rw [e9]
              have hkl' := (List.getElem?_eq_some_iff.1 (unhide HX)).1
              have e1 : L.flatMap (S.sp i) = (L.take k).flatMap (S.sp i) ++ (S.sp i p ++ (L.drop (k + 1)).flatMap (S.sp i)) := by
                have : L = L.take k ++ (p :: L.drop (k + 1)) := by
                  rw [← (List.getElem?_eq_some_iff.1 (unhide HX)).2, ← List.drop_eq_getElem_cons hkl', List.take_append_drop]
                conv => lhs; rw [this]
                simp
              rw [e1]
              simp [S.sp]
              omega
            omega
          obtain ⟨l9, hl9⟩ := key8 (d : Int) x hwd hwx
          have hown' := hown.alloc (.cells #[.int .i64 (d : Int), .int .i64 x] 100)
          have HS9 := hide ((unhide HT).step (hown.tidy keyed8) hl9 (unhide HF) i)
          have zp' := cell_keep zp (below_alloc wr (.cells #[.int .i64 (d : Int), .int .i64 x] 100))
          have hg' := grown_all hg (.cells #[.int .i64 (d : Int), .int .i64 x] 100)
          have hzp : w9.heap.size < wr.heap.size := World.block_lt_of_cell? wr _ zp
          have hxz' : ¬ z ≤ x := by omega
          have hb2' : b2 < wr.heap.size := World.block_lt_of_cell? wr _ e1
          clear hc1 hc2 hx hz hown hpd
          go_wp2_with (first
            | (at_lookup; refine lookup_free rfl _ _ rfl rfl hown' (unhide HT) hwd hwx (unhide HF) rfl ?_; intro cc)
            | (at_mapUpdate; refine wpList_mapUpdate_own _ rfl _ _ _ 61 rfl 100 3 keyed8 Tryz.underlying61 _ b dj.length M2 rfl hown' (by unfold maxLen; omega) _ _ _ rfl rfl hl9 _ [] (plainElem_int Tryz.underlying3 (WalkArith.wf_i64 (by omega))) ?_))
          intro w1 hown1 hgrow1
          have zp1 := Stays.of_map (map_block hown').choose_spec.choose_spec hgrow1 _ _ zp'
          have hg1 := hg'.trans hgrow1
          clear hgrow1 zp' hg' hown' zp
          go_wp2
          go_roundw
          case rel =>
            refine ⟨j + 1, _, dj ++ [(((d : Int), x), i)], by have := unhide HLT; omega, by go_num, ?_, by simpa using hown1, unhide HS9, hg1, by rw [unhide HPD]; exact zp1⟩
            show _ = _
            rw [unhide HDJ, take_snoc8 (unhide HXJ), List.map_append, unhide HPD]
            simp
          case measure => (have := unhide HLT; simp [intOf]; omega)
        · have hjl : j = p.a.length := by omega
          go_wp2
          go_roundw
          case rel =>
            refine ⟨k + 1, M2, dj, by omega, by go_num, ?_, hown, HT, hg⟩
            show _ = _
            have e2 : p.a.take j = p.a := List.take_of_length_le (by omega)
            rw [unhide HDJ, e2, unhide HD, take_snoc8 (unhide HX)]
            simp [S.sp]
          case measure => simp [intOf]; omega
    · have e : dk = dn ++ L.flatMap (S.sp i) := by rw [unhide HD, List.take_of_length_le (by omega)]
      subst e
      go_wp2
      go_ret
      exact ⟨rfl, M, hown, unhide HT, hg⟩
end Go.Proofs.YtnahjaloodeicaaGreat

/-
  The contracts of head and wordsOf, and of mayHeads at a segment that may be.
-/
namespace Go.Proofs.YtnahjaloodeicaaGreat
set_option maxRecDepth 100000
open Go.RowKit

/-- s is the segment of the cards l, which may be. -/
def Valid (s : Sg) (l : List Cd) (so : Bool) : Prop := s = S.seg l ∧ S.Ok l so

abbrev segv (ia ka lna ta : Option Addr) (ic kc lnc tc : Nat) (s : Sg) (so : Bool) : Array Value := #[.slice ia s.ids.length ic, .slice ka s.keys.length kc, .slice lna s.lens.length lnc, .slice ta s.ts.length tc, .bool so]

theorem Sv.shape {w : World} {iv kv lv tv : Value} {s : Sg} (h : Sv w iv kv lv tv s) : ∃ ia ka lna ta ic kc lnc tc, iv = .slice ia s.ids.length ic ∧ kv = .slice ka s.keys.length kc ∧ lv = .slice lna s.lens.length lnc ∧ tv = .slice ta s.ts.length tc := by
  obtain ⟨ia, ic, h1, -⟩ := id h.1
  obtain ⟨ka, kc, h2, -⟩ := id h.2.1
  obtain ⟨lna, lnc, h3, -⟩ := id h.2.2.1
  obtain ⟨ta, tc, h4, -⟩ := h.2.2.2.open
  exact ⟨ia, ka, lna, ta, ic, kc, lnc, tc, h1, h2, h3, h4⟩

theorem set3 {w : World} {a : Addr} {u : Value} {b : Nat} (h : w.cell? a = some u) (hne : a.block ≠ b) (u0 u1 u2 : Value) : (((w.setCell ⟨b, 0, none⟩ u0).setCell ⟨b, 1, none⟩ u1).setCell ⟨b, 2, none⟩ u2).cell? a = some u := by
  have key : ∀ (w : World) (j : Nat) (v : Value), w.cell? a = some u → (w.setCell ⟨b, j, none⟩ v).cell? a = some u := fun w j v h => by
    rw [World.cell?_of_block (Below.heap_setCell w ⟨b, j, none⟩ v a.block hne)]
    exact h
  exact key _ _ _ (key _ _ _ (key _ _ _ h))
theorem set3d {w : World} {a : Addr} {u : Value} {b : Nat} (h : w.cell? a = some u) (hne : a.block ≠ b) (u0 u1 u2 : Value) : (((w.setCell ⟨b, 0, none⟩ u0).setCell ⟨b, 1, none⟩ u1).setCell ⟨b, 2, none⟩ u2).drew.cell? a = some u := set3 h hne u0 u1 u2
theorem set3_below {w w1 : World} {b : Nat} (h : Below w.heap.size w w1) (hb : w.heap.size ≤ b) (u0 u1 u2 : Value) : Below w.heap.size w (((w1.setCell ⟨b, 0, none⟩ u0).setCell ⟨b, 1, none⟩ u1).setCell ⟨b, 2, none⟩ u2) := ((h.setCell hb _).setCell hb _).setCell hb _

set_option maxRecDepth 100000 in
set_option maxHeartbeats 2000000 in
theorem head_any (ia ka lna ta : Option Addr) (ic kc lnc tc : Nat) (s : Sg) (so : Bool) (d : Nat) (dI : Int) (hdI : dI = d) (x : ByteArray) (k : Int) (w : World) (h : Sv w (.slice ia s.ids.length ic) (.slice ka s.keys.length kc) (.slice lna s.lens.length lnc) (.slice ta s.ts.length tc) s) (hx : s.ids[d]? = some x) (hk : s.keys[d]? = some k) :
    Calls Tryz.prog 55 #[.agg #[.slice ia s.ids.length ic, .slice ka s.keys.length kc, .slice lna s.lens.length lnc, .slice ta s.ts.length tc, .bool so], .int .i64 dI] w fun e w' => e = .returned (.agg #[.string x, .int .i64 k, .slice none 0 0]) ∧ Below w.heap.size w w' := by
  subst hdI
  have hd1 := (List.getElem?_eq_some_iff.1 hx).1
  have hd2 := (List.getElem?_eq_some_iff.1 hk).1
  obtain ⟨a', c', hv', hl1, hm1, -, ho1⟩ := h.1.open
  simp only [Value.slice.injEq, true_and] at hv'
  obtain ⟨rfl, rfl⟩ := hv'
  obtain ⟨b1, o1, rfl, hb1, hc1⟩ := ho1 (by omega)
  have e1 := hc1 d x hx
  obtain ⟨a', c', hv', hl2, hm2, -, ho2⟩ := h.2.1.open
  simp only [Value.slice.injEq, true_and] at hv'
  obtain ⟨rfl, rfl⟩ := hv'
  obtain ⟨b2, o2, rfl, hb2, hc2⟩ := ho2 (by omega)
  have e2 := hc2 d hd2
  rw [show s.keys.getD d 0 = k by simp [List.getD, hk]] at e2
  obtain ⟨W, hW⟩ : ∃ W, W = (w.alloc (.cells #[.slice (some ⟨b1, o1, none⟩) s.ids.length ic, .slice (some ⟨b2, o2, none⟩) s.keys.length kc, .slice lna s.lens.length lnc, .slice ta s.ts.length tc, .bool so] 30)).alloc (.cells #[.string ⟨#[]⟩, .int .i64 0, .slice none 0 0] 40) := ⟨_, rfl⟩
  have BW : Below w.heap.size w W := by rw [hW]; exact below_all (below_alloc _ _) _
  have y0 : W.cell? ⟨w.heap.size, 0, none⟩ = some (.slice (some ⟨b1, o1, none⟩) s.ids.length ic) := by rw [hW]; simp
  have y1 : W.cell? ⟨w.heap.size, 1, none⟩ = some (.slice (some ⟨b2, o2, none⟩) s.keys.length kc) := by rw [hW]; simp
  have r0 : W.cell? ⟨w.heap.size + 1, 0, none⟩ = some (.string ⟨#[]⟩) := by rw [hW]; simp
  have r1 : W.cell? ⟨w.heap.size + 1, 1, none⟩ = some (.int .i64 0) := by rw [hW]; simp
  have r2 : W.cell? ⟨w.heap.size + 1, 2, none⟩ = some (.slice none 0 0) := by rw [hW]; simp
  have n0 : W.frozen? ⟨w.heap.size + 1, 0, none⟩ = false := by rw [hW]; simp
  have n1 : W.frozen? ⟨w.heap.size + 1, 1, none⟩ = false := by rw [hW]; simp
  have n2 : W.frozen? ⟨w.heap.size + 1, 2, none⟩ = false := by rw [hW]; simp
  have E1 := cell_keep e1 BW
  have E2 := cell_keep e2 BW
  have ne1 : b1 ≠ w.heap.size + 1 := by omega
  have ne2 : b2 ≠ w.heap.size + 1 := by omega
  have q1 : ¬ w.heap.size + 1 = b1 := by omega
  have q2 : ¬ w.heap.size + 1 = b2 := by omega
  have p1 : (0 : Int) ≤ (d : Int) := by omega
  have p2 : (d : Int) < (s.ids.length : Int) := by omega
  have p3 : (d : Int) < (s.keys.length : Int) := by omega
  have HW := hide hW
  clear hW hc1 hc2 ho1 ho2 h hx hk e1 e2
  go_enter Tryz.func55, Tryz.ntmps55
  go_wp2_with fail
  rw [← unhide HW]
  go_region_held3 (fun w' => w'.cell? ⟨w.heap.size, 0, none⟩ = some (.slice (some ⟨b1, o1, none⟩) s.ids.length ic) ∧ w'.cell? ⟨w.heap.size, 1, none⟩ = some (.slice (some ⟨b2, o2, none⟩) s.keys.length kc) ∧ w'.cell? ⟨b1, o1 + d, none⟩ = some (.string x) ∧ w'.cell? ⟨b2, o2 + d, none⟩ = some (.int .i64 k))
    (first
      | go_keep
      | (go_split_ands; exact ⟨set3d y0 (by simp) _ _ _, set3d y1 (by simp) _ _ _, set3d E1 ne1 _ _ _, set3d E2 ne2 _ _ _⟩))
    (fail)
  go_wp2
  exact bodyPost_ret (v := .agg #[.string x, .int .i64 k, .slice none 0 0]) (by simp [results, Tryz.results55, go_sem, r0, r1, r2]) rfl ⟨rfl, (set3_below BW (by omega) _ _ _).drew⟩

set_option maxRecDepth 100000 in
set_option maxHeartbeats 2000000 in
theorem wordsOf_any (ia ka lna ta : Option Addr) (ic kc lnc tc : Nat) (s : Sg) (so : Bool) (w : World) (h : Sv w (.slice ia s.ids.length ic) (.slice ka s.keys.length kc) (.slice lna s.lens.length lnc) (.slice ta s.ts.length tc) s) (hl : s.ts.length ≤ 1000) :
    Calls Tryz.prog 44 #[.agg #[.slice ia s.ids.length ic, .slice ka s.keys.length kc, .slice lna s.lens.length lnc, .slice ta s.ts.length tc, .bool so]] w fun e w' => ∃ v', e = .returned v' ∧ Gl .string w' v' (s.ts.map (·.t)) ∧ Below w.heap.size w w' := by
  obtain ⟨i9, hi9, hz90, hz91, hz92⟩ := info_parts Tryz.infoS
  have HT := h.2.2.2
  go_enter Tryz.func44, Tryz.ntmps44
  go_wp2
  go_loopw [3, 9] (fun ov iv wr => ∃ (k : Nat) (pre : List ByteArray), k ≤ s.ts.length ∧ iv = .int .i64 k ∧ Hid (pre = (s.ts.take k).map (·.t)) ∧ pre.length ≤ k ∧ wr.ownsRow w.heap.size 9 1 ov pre.length (pre.map Value.string) ∧ Below w.heap.size w wr) (fun _ iv _ => s.ts.length - (intOf iv).toNat)
  case atStart => exact ⟨0, [], Nat.zero_le _, rfl, rfl, Nat.zero_le _, World.ownsRow_nil _ _ _ _, below_alloc _ _⟩
  case round =>
    obtain ⟨k, pre, hk, rfl, HP, hpl, hown, hbel⟩ := hrel
    by_cases hlt : k < s.ts.length
    · obtain ⟨a', c', hv', -, -, -, ho⟩ := (HT.below hbel).open
      simp only [Value.slice.injEq, true_and] at hv'
      obtain ⟨rfl, rfl⟩ := hv'
      obtain ⟨b, off, rfl, hb, hc⟩ := ho (by omega)
      obtain ⟨t, hx⟩ : ∃ t, s.ts[k]? = some t := ⟨s.ts[k], List.getElem?_eq_getElem hlt⟩
      obtain ⟨wa, wc, c0, c1, -⟩ := hc k t hx
      have HTS := hide (take_snoc8 hx)
      have O1 := hown.alloc (.cells #[.string t.t, .slice wa t.p.length wc] 69)
      have B1 := hbel.alloc hbel.size (.cells #[.string t.t, .slice wa t.p.length wc] 69)
      have hbs := hbel.size
      clear ho hc hx
      go_wp2_with (at_builtin; refine append_oneL (f := Value.string) rfl _ _ 26 rfl Tryz.underlying26 hi9 hz90 hz91 hz92 rfl (fun _ => rfl) (pre := pre) t.t rfl rfl (by simp) O1 (by simp; omega) (by omega) (by omega) ?_; intro g5 q5 w5 O5 g5' l5)
      have B5 := B1.grown g5' (by simp; omega) (fun j hj => (O1.lt j hj).1)
      clear g5' l5 O1 B1 hown
      go_roundw
      case rel =>
        refine ⟨k + 1, pre ++ [t.t], by omega, by go_num, ?_, by simp; omega, O5, B5⟩
        show _ = _
        rw [unhide HTS, List.map_append, ← unhide HP]; rfl
      case measure => simp [intOf]; omega
    · have hpre : pre = s.ts.map (·.t) := by rw [unhide HP, List.take_of_length_le (by omega)]
      have G := Gl.owned hown
      rw [hpre] at G
      clear HP
      go_wp2
      go_ret
      exact ⟨_, rfl, G, hbel⟩
end Go.Proofs.YtnahjaloodeicaaGreat

/-
  The contract of mayHeads, at a segment that may be.
-/
namespace Go.Proofs.YtnahjaloodeicaaGreat
set_option maxRecDepth 100000
open Go.RowKit

theorem Valid.lens {s : Sg} {l : List Cd} {so : Bool} (h : Valid s l so) : s.ids.length = l.length ∧ s.keys.length = l.length ∧ s.lens.length = l.length ∧ s.ts.length = (S.words l).length := by
  obtain ⟨rfl, -⟩ := h
  simp [S.seg]
theorem Valid.at {s : Sg} {l : List Cd} {so : Bool} (h : Valid s l so) {d : Nat} {c : Cd} (hc : l[d]? = some c) : s.ids[d]? = some c.id ∧ s.keys[d]? = some c.key ∧ s.lens[d]? = some (c.w.length : Int) := by
  obtain ⟨rfl, -⟩ := h
  simp [S.seg, hc]

theorem fits_head8 {c : Cd} (h : S.fits c = true) : S.head c.id c.key c.w.length = true := by
  rw [S.fits_head, Bool.and_eq_true] at h
  exact h.1

set_option maxRecDepth 100000 in
set_option maxHeartbeats 4000000 in
theorem mayHeads_any (ia ka lna ta : Option Addr) (ic kc lnc tc : Nat) (s : Sg) (so : Bool) (l : List Cd) (w : World) (h : Sv w (.slice ia s.ids.length ic) (.slice ka s.keys.length kc) (.slice lna s.lens.length lnc) (.slice ta s.ts.length tc) s) (hV : Valid s l so) :
    Calls Tryz.prog 52 #[.agg #[.slice ia s.ids.length ic, .slice ka s.keys.length kc, .slice lna s.lens.length lnc, .slice ta s.ts.length tc, .bool so]] w fun e w' => e = .returned (.bool true) ∧ Below w.heap.size w w' := by
  obtain ⟨n1, n2, n3, -⟩ := hV.lens
  have h64 := hV.2.len
  have q0 : ¬ (64 : Int) < (s.ids.length : Int) := by omega
  have q1 : ((s.keys.length : Int) != (s.ids.length : Int)) = false := by simp; omega
  have q2 : ((s.lens.length : Int) != (s.ids.length : Int)) = false := by simp; omega
  have hnd : decide s.ids.Nodup = true := by
    rw [hV.1]
    have := hV.2.unl
    unfold S.Unlike at this
    show decide (l.map (·.id)).Nodup = true
    rw [decide_eq_true_eq, List.nodup_iff_pairwise_ne, List.pairwise_map]
    exact this
  have hsz : ∀ x ∈ s.ids, x.size ≤ maxLen := by
    intro x hx
    rw [hV.1] at hx
    obtain ⟨c, hc, rfl⟩ := List.mem_map.1 hx
    have := (S.fits_w (hV.2.fit c hc)).2.2.2.1
    unfold maxLen
    omega
  obtain ⟨W, hW⟩ : ∃ W, W = w.alloc (.cells #[.slice ia s.ids.length ic, .slice ka s.keys.length kc, .slice lna s.lens.length lnc, .slice ta s.ts.length tc, .bool so] 30) := ⟨_, rfl⟩
  have BW : Below w.heap.size w W := by rw [hW]; exact below_alloc _ _
  have X0 : W.heap[w.heap.size]? = some (.cells #[.slice ia s.ids.length ic, .slice ka s.keys.length kc, .slice lna s.lens.length lnc, .slice ta s.ts.length tc, .bool so] 30 (0, 0)) := by rw [hW]; exact heap_alloc_new w _
  have HV := h.below BW
  have HW := hide hW
  clear hW
  have CU := unlike_b _ _ W HV.1 hsz true hnd
  have HVA := hide hV
  have N1 := hide n1
  have N2 := hide n2
  have N3 := hide n3
  have hn64 : s.ids.length ≤ 64 := by omega
  clear hV hnd hsz n1 n2 n3 h
  go_enter Tryz.func52, Tryz.ntmps52
  go_wp2_with (go_at_call 61; rw [← unhide HW]; refine CU.mono ?_; rintro e w1 ⟨rfl, B1⟩; have x0 := box_cell (box_below X0 B1) (j := 0) rfl)
  have X1 := box_below X0 B1
  have BB := below_trans' BW B1
  have HV1 := HV.below B1
  clear B1 X0 CU HV x0
  go_loopw [35] (fun iv wr => ∃ k : Nat, k ≤ s.ids.length ∧ iv = .int .i64 k ∧ Below w1.heap.size w1 wr) (fun iv _ => s.ids.length - (intOf iv).toNat)
  case atStart => exact ⟨0, Nat.zero_le _, rfl, Below.refl _ _⟩
  case round =>
    obtain ⟨k, hk, rfl, hbel⟩ := hrel
    by_cases hlt : k < s.ids.length
    · obtain ⟨c, hx⟩ : ∃ c, l[k]? = some c := ⟨l[k]'(by have := unhide N1; omega), List.getElem?_eq_getElem _⟩
      obtain ⟨a1, a2, a3⟩ := (unhide HVA).at hx
      have hfc := (unhide HVA).2.fit c (List.mem_of_getElem? hx)
      have HFH := hide (fits_head8 hfc)
      have XR := box_below X1 hbel
      have HVR := HV1.below hbel
      have BBR := below_trans' BB hbel
      obtain ⟨a', c', hv', -, -, -, ho1⟩ := HVR.1.open
      simp only [Value.slice.injEq, true_and] at hv'
      obtain ⟨rfl, rfl⟩ := hv'
      obtain ⟨b1, o1, rfl, hb1, hc1⟩ := ho1 (by omega)
      have e1 := hc1 k _ a1
      obtain ⟨a', c', hv', -, -, -, ho2⟩ := HVR.2.1.open
      simp only [Value.slice.injEq, true_and] at hv'
      obtain ⟨rfl, rfl⟩ := hv'
      obtain ⟨b2, o2, rfl, hb2, hc2⟩ := ho2 (by have := unhide N1; have := unhide N2; omega)
      have e2 := hc2 k (by have := unhide N1; have := unhide N2; omega)
      rw [show s.keys.getD k 0 = c.key by simp [List.getD, a2]] at e2
      obtain ⟨a', c', hv', -, -, -, ho3⟩ := HVR.2.2.1.open
      simp only [Value.slice.injEq, true_and] at hv'
      obtain ⟨rfl, rfl⟩ := hv'
      obtain ⟨b3, o3, rfl, hb3, hc3⟩ := ho3 (by have := unhide N1; have := unhide N3; omega)
      have e3 := hc3 k (by have := unhide N1; have := unhide N3; omega)
      rw [show s.lens.getD k 0 = (c.w.length : Int) by simp [List.getD, a3]] at e3
      have y0 := box_cell XR (j := 0) rfl
      have y1 := box_cell XR (j := 1) rfl
      have y2 := box_cell XR (j := 2) rfl
      have y4 := box_cell XR (j := 4) rfl
      have p2 : (k : Int) < (s.keys.length : Int) := by have := unhide N1; have := unhide N2; omega
      have p3 : (k : Int) < (s.lens.length : Int) := by have := unhide N1; have := unhide N3; omega
      have HX := hide hx
      have HA1 := hide a1
      have HA2 := hide a2
      have HXR := hide XR
      have HHVR := hide HVR
      clear hc1 hc2 hc3 ho1 ho2 ho3 hx a1 a2 a3 XR HVR
      go_wp2
      go_quiet ((go_at_call 58; refine Calls.quiet_of_same (mayHead_b _ _ _ _ _ (unhide HFH))))
      obtain ⟨W9, hW9⟩ : ∃ W9, W9 = wr.drewN nq := ⟨_, rfl⟩
      have B9 : Below w1.heap.size w1 W9 := by rw [hW9]; exact below_dr hbel nq
      have X9 : W9.heap[w.heap.size]? = some (.cells #[.slice (some ⟨b1, o1, none⟩) s.ids.length ic, .slice (some ⟨b2, o2, none⟩) s.keys.length kc, .slice (some ⟨b3, o3, none⟩) s.lens.length lnc, .slice ta s.ts.length tc, .bool so] 30 (0, 0)) := by rw [hW9]; exact unhide HXR
      have V9 : Sv W9 (.slice (some ⟨b1, o1, none⟩) s.ids.length ic) (.slice (some ⟨b2, o2, none⟩) s.keys.length kc) (.slice (some ⟨b3, o3, none⟩) s.lens.length lnc) (.slice ta s.ts.length tc) s := (unhide HHVR).below (by rw [hW9]; exact below_dr (Below.refl _ _) nq)
      rw [← hW9]
      clear hW9 e1 e2 e3 y0 y1 y2 y4 HXR HHVR hbel BBR
      cases so with
      | false =>
        have y4 := box_cell X9 (j := 4) rfl
        go_wp2
        go_quiet (fail)
        go_wp2
        go_roundw
        case rel => exact ⟨k + 1, by omega, by go_num, below_dr' B9 _⟩
        case measure => simp [intOf]; omega
      | true =>
        have y4 := box_cell X9 (j := 4) rfl
        rcases Nat.eq_zero_or_pos k with hk0 | hk0
        · subst hk0
          go_wp2
          go_quiet (fail)
          go_wp2
          go_roundw
          case rel => exact ⟨1, by omega, by go_num, below_dr' B9 _⟩
          case measure => simp [intOf]; omega
        · obtain ⟨m, rfl⟩ : ∃ m, k = m + 1 := ⟨k - 1, by omega⟩
          obtain ⟨c0, hx0⟩ : ∃ c, l[m]? = some c := ⟨l[m]'(by have := unhide N1; omega), List.getElem?_eq_getElem _⟩
          obtain ⟨z1, z2, -⟩ := (unhide HVA).at hx0
          have HBF : Hid (S.before ⟨c0.id, c0.key, []⟩ ⟨c.id, c.key, []⟩ = true) := by
            have hup := (unhide HVA).2.up rfl
            obtain ⟨i1, r1⟩ := List.getElem?_eq_some_iff.1 hx0
            obtain ⟨i2, r2⟩ := List.getElem?_eq_some_iff.1 (unhide HX)
            have := List.pairwise_iff_getElem.1 hup m (m + 1) i1 i2 (by omega)
            rw [r1, r2] at this
            exact this
          have g0 : ∀ w', Below W9.heap.size W9 w' → w'.cell? ⟨w.heap.size, 0, none⟩ = some (.slice (some ⟨b1, o1, none⟩) s.ids.length ic) := fun w' hw' => cell_keep (box_cell X9 (j := 0) rfl) hw'
          have g1 : ∀ w', Below W9.heap.size W9 w' → w'.cell? ⟨w.heap.size, 1, none⟩ = some (.slice (some ⟨b2, o2, none⟩) s.keys.length kc) := fun w' hw' => cell_keep (box_cell X9 (j := 1) rfl) hw'
          have g2 : ∀ w', Below W9.heap.size W9 w' → w'.cell? ⟨w.heap.size, 2, none⟩ = some (.slice (some ⟨b3, o3, none⟩) s.lens.length lnc) := fun w' hw' => cell_keep (box_cell X9 (j := 2) rfl) hw'
          have g3 : ∀ w', Below W9.heap.size W9 w' → w'.cell? ⟨w.heap.size, 3, none⟩ = some (.slice ta s.ts.length tc) := fun w' hw' => cell_keep (box_cell X9 (j := 3) rfl) hw'
          have g4 : ∀ w', Below W9.heap.size W9 w' → w'.cell? ⟨w.heap.size, 4, none⟩ = some (.bool true) := fun w' hw' => cell_keep (box_cell X9 (j := 4) rfl) hw'
          have hw0 : IntKind.i64.wrap (m : Int) = m := by simp [IntKind.wrap, IntKind.bits, IntKind.signed]; omega
          have hpos : (0 : Int) < (m : Int) + 1 := by omega
          have HZ1 := hide z1
          have HZ2 := hide z2
          clear z1 z2 hx0
          go_wp2
          refine region_below (by kernel_rfl) (by kernel_rfl) ?_
          repeat
            (first
              | go_big_quiet_skip
              | (go_big_quiet_want; go_big_quiet_op
                 first
                   | go_big_quiet_on
                   | (apply Exists.intro
                      refine ⟨fun w' hw' => ?_, ?_⟩
                      · first
                       | exact rfl
                       | (rw [g0 w' hw']; dsimp only [Result.andThen]; rw [g1 w' hw']; dsimp only [Result.andThen]; rw [g2 w' hw']; dsimp only [Result.andThen]; rw [g3 w' hw']; dsimp only [Result.andThen]; rw [g4 w' hw']; exact ⟨rfl, rfl⟩)
                       | (rw [g4 w' hw']; exact ⟨rfl, rfl⟩)
                       | (go_at_call_of 55 (Value.int IntKind.i64 (m : Int)); exact (head_any (some ⟨b1, o1, none⟩) (some ⟨b2, o2, none⟩) (some ⟨b3, o3, none⟩) ta ic kc lnc tc s true m _ rfl _ _ _ (V9.below hw') (unhide HZ1) (unhide HZ2)).mono fun e w'' ⟨h1, h2⟩ => ⟨h1, below_trans' hw' h2⟩)
                       | (go_at_call 55; exact (head_any (some ⟨b1, o1, none⟩) (some ⟨b2, o2, none⟩) (some ⟨b3, o3, none⟩) ta ic kc lnc tc s true (m + 1) ((m : Int) + 1) (by omega) _ _ _ (V9.below hw') (unhide HA1) (unhide HA2)).mono fun e w'' ⟨h1, h2⟩ => ⟨h1, below_trans' hw' h2⟩)
                       | (go_at_call 74; exact (before_b _ _ _ _ _ _ _ _ _ _ (unhide HBF)).mono fun e w'' ⟨h1, h2⟩ => ⟨h1, below_trans' hw' h2⟩)
                      go_big_quiet_on)))
          refine wpQuiet_nil ?_
          intro w9 hb9
          have B10 := below_trans' B9 hb9
          go_wp2
          go_roundw
          case rel => exact ⟨m + 1 + 1, by omega, by go_num, B10⟩
          case measure => simp [intOf]; omega
    · go_wp2
      go_ret
      exact ⟨rfl, below_trans' BB hbel⟩
end Go.Proofs.YtnahjaloodeicaaGreat

/-
  The contract of mayHeads, at any segment.
-/
namespace Go.Proofs.YtnahjaloodeicaaGreat
set_option maxRecDepth 100000
open Go.RowKit

/-- What mayHeads asks. -/
structure HeadsP (s : Sg) (so : Bool) : Prop where
  n64 : s.ids.length ≤ 64
  nk : s.keys.length = s.ids.length
  nl : s.lens.length = s.ids.length
  unl : s.ids.Nodup
  head : ∀ (d : Nat) (x : ByteArray) (k n : Int), s.ids[d]? = some x → s.keys[d]? = some k → s.lens[d]? = some n → S.head x k n = true
  up : so = true → ∀ (d : Nat) (x y : ByteArray) (k m : Int), s.ids[d]? = some x → s.keys[d]? = some k → s.ids[d + 1]? = some y → s.keys[d + 1]? = some m → S.before ⟨x, k, []⟩ ⟨y, m, []⟩ = true
def HeadsEnd (w : World) (s : Sg) (so : Bool) (e : Ending) (w' : World) : Prop := ∃ r : Bool, e = .returned (.bool r) ∧ (r = true ↔ HeadsP s so) ∧ Below w.heap.size w w'
theorem heads_no {w w' : World} {s : Sg} {so : Bool} (h : ¬ HeadsP s so) (hb : Below w.heap.size w w') : HeadsEnd w s so (.returned (.bool false)) w' := ⟨false, rfl, ⟨fun h => by (cases h), fun h9 => absurd h9 h⟩, hb⟩

set_option maxRecDepth 100000 in
set_option maxHeartbeats 8000000 in
theorem mayHeads_all (ia ka lna ta : Option Addr) (ic kc lnc tc : Nat) (s : Sg) (so : Bool) (w : World) (h : Sv w (.slice ia s.ids.length ic) (.slice ka s.keys.length kc) (.slice lna s.lens.length lnc) (.slice ta s.ts.length tc) s) (hsz : ∀ x ∈ s.ids, x.size ≤ maxLen) :
    Calls Tryz.prog 52 #[.agg #[.slice ia s.ids.length ic, .slice ka s.keys.length kc, .slice lna s.lens.length lnc, .slice ta s.ts.length tc, .bool so]] w (HeadsEnd w s so) := by
  obtain ⟨W, hW⟩ : ∃ W, W = w.alloc (.cells #[.slice ia s.ids.length ic, .slice ka s.keys.length kc, .slice lna s.lens.length lnc, .slice ta s.ts.length tc, .bool so] 30) := ⟨_, rfl⟩
  have BW : Below w.heap.size w W := by rw [hW]; exact below_alloc _ _
  have X0 : W.heap[w.heap.size]? = some (.cells #[.slice ia s.ids.length ic, .slice ka s.keys.length kc, .slice lna s.lens.length lnc, .slice ta s.ts.length tc, .bool so] 30 (0, 0)) := by rw [hW]; exact heap_alloc_new w _
  have HV := h.below BW
  have HW := hide hW
  clear hW
  by_cases h64 : 64 < s.ids.length
  · have q0 : (64 : Int) < (s.ids.length : Int) := by omega
    have HNO := hide (show ¬ HeadsP s so from fun h9 => by have := h9.n64; omega)
    clear HV h hsz
    go_enter Tryz.func52, Tryz.ntmps52
    go_wp2
    try rw [← unhide HW]
    go_ret
    exact heads_no (unhide HNO) (by first | exact BW | (rw [← unhide HW]; exact BW))
  have q0 : ¬ (64 : Int) < (s.ids.length : Int) := by omega
  by_cases hnk : s.keys.length = s.ids.length
  case neg =>
    have q1 : ((s.keys.length : Int) != (s.ids.length : Int)) = true := by simp; omega
    have HNO := hide (show ¬ HeadsP s so from fun h9 => hnk h9.nk)
    clear HV h hsz hnk
    go_enter Tryz.func52, Tryz.ntmps52
    go_wp2
    go_ret
    exact heads_no (unhide HNO) (by first | exact BW | (rw [← unhide HW]; exact BW))
  have q1 : ((s.keys.length : Int) != (s.ids.length : Int)) = false := by simp; omega
  by_cases hnl : s.lens.length = s.ids.length
  case neg =>
    have q2 : ((s.lens.length : Int) != (s.ids.length : Int)) = true := by simp; omega
    have HNO := hide (show ¬ HeadsP s so from fun h9 => hnl h9.nl)
    clear HV h hsz hnl hnk
    go_enter Tryz.func52, Tryz.ntmps52
    go_wp2
    go_ret
    exact heads_no (unhide HNO) (by first | exact BW | (rw [← unhide HW]; exact BW))
  have q2 : ((s.lens.length : Int) != (s.ids.length : Int)) = false := by simp; omega
  have hn64 : s.ids.length ≤ 64 := by omega
  have N2 := hide hnk
  have N3 := hide hnl
  by_cases hnd : s.ids.Nodup
  case neg =>
    have CU := unlike_b _ _ W HV.1 hsz false (decide_eq_false hnd)
    have HNO := hide (show ¬ HeadsP s so from fun h9 => hnd h9.unl)
    clear HV h hsz hnd hnk hnl
    go_enter Tryz.func52, Tryz.ntmps52
    go_wp2_with (go_at_call 61; rw [← unhide HW]; refine CU.mono ?_; rintro e w1 ⟨rfl, B1⟩)
    go_ret
    exact heads_no (unhide HNO) (below_trans' BW B1)
  have CU := unlike_b _ _ W HV.1 hsz true (decide_eq_true hnd)
  have HND := hide hnd
  clear hnd hsz hnk hnl h h64
  go_enter Tryz.func52, Tryz.ntmps52
  go_wp2_with (go_at_call 61; rw [← unhide HW]; refine CU.mono ?_; rintro e w1 ⟨rfl, B1⟩; have x0 := box_cell (box_below X0 B1) (j := 0) rfl)
  have X1 := box_below X0 B1
  have BB := below_trans' BW B1
  have HV1 := HV.below B1
  clear B1 X0 CU HV x0
  go_loopw [35] (fun iv wr => ∃ k : Nat, k ≤ s.ids.length ∧ iv = .int .i64 k ∧ Hid (∀ (d : Nat) (x : ByteArray) (kk n : Int), d < k → s.ids[d]? = some x → s.keys[d]? = some kk → s.lens[d]? = some n → S.head x kk n = true) ∧ Hid (so = true → ∀ (d : Nat) (x y : ByteArray) (kk m : Int), d + 1 < k → s.ids[d]? = some x → s.keys[d]? = some kk → s.ids[d + 1]? = some y → s.keys[d + 1]? = some m → S.before ⟨x, kk, []⟩ ⟨y, m, []⟩ = true) ∧ Below w1.heap.size w1 wr) (fun iv _ => s.ids.length - (intOf iv).toNat)
  case atStart => exact ⟨0, Nat.zero_le _, rfl, hide (fun d x kk n hd => by omega), hide (fun _ d x y kk m hd => by omega), Below.refl _ _⟩
  case round =>
    obtain ⟨k, hk, rfl, HH0, HU0, hbel⟩ := hrel
    by_cases hlt : k < s.ids.length
    · obtain ⟨cid, a1⟩ : ∃ x, s.ids[k]? = some x := ⟨s.ids[k], List.getElem?_eq_getElem hlt⟩
      obtain ⟨ckey, a2⟩ : ∃ x, s.keys[k]? = some x := ⟨s.keys[k]'(by have := unhide N2; omega), List.getElem?_eq_getElem _⟩
      obtain ⟨clen, a3⟩ : ∃ x, s.lens[k]? = some x := ⟨s.lens[k]'(by have := unhide N3; omega), List.getElem?_eq_getElem _⟩
      have XR := box_below X1 hbel
      have HVR := HV1.below hbel
      have BBR := below_trans' BB hbel
      obtain ⟨a', c', hv', -, -, -, ho1⟩ := HVR.1.open
      simp only [Value.slice.injEq, true_and] at hv'
      obtain ⟨rfl, rfl⟩ := hv'
      obtain ⟨b1, o1, rfl, hb1, hc1⟩ := ho1 (by omega)
      have e1 := hc1 k _ a1
      obtain ⟨a', c', hv', -, -, -, ho2⟩ := HVR.2.1.open
      simp only [Value.slice.injEq, true_and] at hv'
      obtain ⟨rfl, rfl⟩ := hv'
      obtain ⟨b2, o2, rfl, hb2, hc2⟩ := ho2 (by have := unhide N2; omega)
      have e2 := hc2 k (by have := unhide N2; omega)
      rw [show s.keys.getD k 0 = ckey by simp [List.getD, a2]] at e2
      obtain ⟨a', c', hv', -, -, -, ho3⟩ := HVR.2.2.1.open
      simp only [Value.slice.injEq, true_and] at hv'
      obtain ⟨rfl, rfl⟩ := hv'
      obtain ⟨b3, o3, rfl, hb3, hc3⟩ := ho3 (by have := unhide N3; omega)
      have e3 := hc3 k (by have := unhide N3; omega)
      rw [show s.lens.getD k 0 = clen by simp [List.getD, a3]] at e3
      have y0 := box_cell XR (j := 0) rfl
      have y1 := box_cell XR (j := 1) rfl
      have y2 := box_cell XR (j := 2) rfl
      have y4 := box_cell XR (j := 4) rfl
      have p2 : (k : Int) < (s.keys.length : Int) := by have := unhide N2; omega
      have p3 : (k : Int) < (s.lens.length : Int) := by have := unhide N3; omega
      have HA1 := hide a1
      have HA2 := hide a2
      have HA3 := hide a3
      have HXR := hide XR
      have HHVR := hide HVR
      clear hc1 hc2 hc3 ho1 ho2 ho3 a1 a2 a3 XR HVR
      cases hfh : S.head cid ckey clen with
      | false =>
        have HFH := hide hfh
        have HNO := hide (show ¬ HeadsP s so from fun h9 => by have := h9.head k _ _ _ (unhide HA1) (unhide HA2) (unhide HA3); rw [hfh] at this; cases this)
        have HB := hide BBR
        clear hfh BBR
        go_wp2
        go_quiet ((go_at_call 58; refine Calls.quiet_of_same (mayHead_b _ _ _ _ _ (unhide HFH))))
        go_wp2
        go_ret
        exact heads_no (unhide HNO) (below_dr' (unhide HB) _)
      | true =>
      have HFH := hide hfh
      have HH1 : Hid (∀ (d : Nat) (x : ByteArray) (kk n : Int), d < k + 1 → s.ids[d]? = some x → s.keys[d]? = some kk → s.lens[d]? = some n → S.head x kk n = true) := hide (fun d x kk n hd g1 g2 g3 => by
        by_cases e : d = k
        · subst e
          rw [unhide HA1] at g1
          rw [unhide HA2] at g2
          rw [unhide HA3] at g3
          cases g1; cases g2; cases g3
          exact unhide HFH
        · exact unhide HH0 d x kk n (by omega) g1 g2 g3)
      clear hfh
      go_wp2
      go_quiet ((go_at_call 58; refine Calls.quiet_of_same (mayHead_b _ _ _ _ _ (unhide HFH))))
      obtain ⟨W9, hW9⟩ : ∃ W9, W9 = wr.drewN nq := ⟨_, rfl⟩
      have B9 : Below w1.heap.size w1 W9 := by rw [hW9]; exact below_dr hbel nq
      have X9 : W9.heap[w.heap.size]? = some (.cells #[.slice (some ⟨b1, o1, none⟩) s.ids.length ic, .slice (some ⟨b2, o2, none⟩) s.keys.length kc, .slice (some ⟨b3, o3, none⟩) s.lens.length lnc, .slice ta s.ts.length tc, .bool so] 30 (0, 0)) := by rw [hW9]; exact unhide HXR
      have V9 : Sv W9 (.slice (some ⟨b1, o1, none⟩) s.ids.length ic) (.slice (some ⟨b2, o2, none⟩) s.keys.length kc) (.slice (some ⟨b3, o3, none⟩) s.lens.length lnc) (.slice ta s.ts.length tc) s := (unhide HHVR).below (by rw [hW9]; exact below_dr (Below.refl _ _) nq)
      rw [← hW9]
      clear hW9 e1 e2 e3 y0 y1 y2 y4 HXR HHVR hbel BBR
      cases so with
      | false =>
        have y4 := box_cell X9 (j := 4) rfl
        go_wp2
        go_quiet (fail)
        go_wp2
        go_roundw
        case rel => exact ⟨k + 1, by omega, by go_num, HH1, hide (fun h => by cases h), below_dr' B9 _⟩
        case measure => simp [intOf]; omega
      | true =>
        have y4 := box_cell X9 (j := 4) rfl
        rcases Nat.eq_zero_or_pos k with hk0 | hk0
        · subst hk0
          go_wp2
          go_quiet (fail)
          go_wp2
          go_roundw
          case rel => exact ⟨1, by omega, by go_num, HH1, hide (fun _ d x y kk m hd => by omega), below_dr' B9 _⟩
          case measure => simp [intOf]; omega
        · obtain ⟨m, rfl⟩ : ∃ m, k = m + 1 := ⟨k - 1, by omega⟩
          obtain ⟨c0id, z1⟩ : ∃ x, s.ids[m]? = some x := ⟨s.ids[m]'(by omega), List.getElem?_eq_getElem _⟩
          obtain ⟨c0key, z2⟩ : ∃ x, s.keys[m]? = some x := ⟨s.keys[m]'(by have := unhide N2; omega), List.getElem?_eq_getElem _⟩
          have g0 : ∀ w', Below W9.heap.size W9 w' → w'.cell? ⟨w.heap.size, 0, none⟩ = some (.slice (some ⟨b1, o1, none⟩) s.ids.length ic) := fun w' hw' => cell_keep (box_cell X9 (j := 0) rfl) hw'
          have g1 : ∀ w', Below W9.heap.size W9 w' → w'.cell? ⟨w.heap.size, 1, none⟩ = some (.slice (some ⟨b2, o2, none⟩) s.keys.length kc) := fun w' hw' => cell_keep (box_cell X9 (j := 1) rfl) hw'
          have g2 : ∀ w', Below W9.heap.size W9 w' → w'.cell? ⟨w.heap.size, 2, none⟩ = some (.slice (some ⟨b3, o3, none⟩) s.lens.length lnc) := fun w' hw' => cell_keep (box_cell X9 (j := 2) rfl) hw'
          have g3 : ∀ w', Below W9.heap.size W9 w' → w'.cell? ⟨w.heap.size, 3, none⟩ = some (.slice ta s.ts.length tc) := fun w' hw' => cell_keep (box_cell X9 (j := 3) rfl) hw'
          have g4 : ∀ w', Below W9.heap.size W9 w' → w'.cell? ⟨w.heap.size, 4, none⟩ = some (.bool true) := fun w' hw' => cell_keep (box_cell X9 (j := 4) rfl) hw'
          have hw0 : IntKind.i64.wrap (m : Int) = m := by simp [IntKind.wrap, IntKind.bits, IntKind.signed]; omega
          have hpos : (0 : Int) < (m : Int) + 1 := by omega
          have HZ1 := hide z1
          have HZ2 := hide z2
          clear z1 z2
          cases hbf : S.before ⟨c0id, c0key, []⟩ ⟨cid, ckey, []⟩ with
          | false =>
            have HBF : Hid (S.before ⟨c0id, c0key, []⟩ ⟨cid, ckey, []⟩ = false) := hide hbf
            have HNO := hide (show ¬ HeadsP s true from fun h9 => by have := h9.up rfl m _ _ _ _ (unhide HZ1) (unhide HZ2) (unhide HA1) (unhide HA2); rw [hbf] at this; cases this)
            clear hbf
            go_wp2
            refine region_below (by kernel_rfl) (by kernel_rfl) ?_
            repeat
              (first
                | go_big_quiet_skip
                | (go_big_quiet_want; go_big_quiet_op
                   first
                     | go_big_quiet_on
                     | (apply Exists.intro
                        refine ⟨fun w' hw' => ?_, ?_⟩
                        · first
                         | exact rfl
                         | (rw [g0 w' hw']; dsimp only [Result.andThen]; rw [g1 w' hw']; dsimp only [Result.andThen]; rw [g2 w' hw']; dsimp only [Result.andThen]; rw [g3 w' hw']; dsimp only [Result.andThen]; rw [g4 w' hw']; exact ⟨rfl, rfl⟩)
                         | (rw [g4 w' hw']; exact ⟨rfl, rfl⟩)
                         | (go_at_call_of 55 (Value.int IntKind.i64 (m : Int)); exact (head_any (some ⟨b1, o1, none⟩) (some ⟨b2, o2, none⟩) (some ⟨b3, o3, none⟩) ta ic kc lnc tc s true m _ rfl _ _ _ (V9.below hw') (unhide HZ1) (unhide HZ2)).mono fun e w'' ⟨h1, h2⟩ => ⟨h1, below_trans' hw' h2⟩)
                         | (go_at_call 55; exact (head_any (some ⟨b1, o1, none⟩) (some ⟨b2, o2, none⟩) (some ⟨b3, o3, none⟩) ta ic kc lnc tc s true (m + 1) ((m : Int) + 1) (by omega) _ _ _ (V9.below hw') (unhide HA1) (unhide HA2)).mono fun e w'' ⟨h1, h2⟩ => ⟨h1, below_trans' hw' h2⟩)
                         | (go_at_call 74; exact (before_b _ _ _ _ _ _ _ _ _ _ (unhide HBF)).mono fun e w'' ⟨h1, h2⟩ => ⟨h1, below_trans' hw' h2⟩)
                        go_big_quiet_on)))
            refine wpQuiet_nil ?_
            intro w9 hb9
            have B10 := below_trans' B9 hb9
            go_wp2
            go_ret
            exact heads_no (unhide HNO) (below_trans' BB B10)
          | true =>
          have HBF : Hid (S.before ⟨c0id, c0key, []⟩ ⟨cid, ckey, []⟩ = true) := hide hbf
          clear hbf
          go_wp2
          refine region_below (by kernel_rfl) (by kernel_rfl) ?_
          repeat
            (first
              | go_big_quiet_skip
              | (go_big_quiet_want; go_big_quiet_op
                 first
                   | go_big_quiet_on
                   | (apply Exists.intro
                      refine ⟨fun w' hw' => ?_, ?_⟩
                      · first
                       | exact rfl
                       | (rw [g0 w' hw']; dsimp only [Result.andThen]; rw [g1 w' hw']; dsimp only [Result.andThen]; rw [g2 w' hw']; dsimp only [Result.andThen]; rw [g3 w' hw']; dsimp only [Result.andThen]; rw [g4 w' hw']; exact ⟨rfl, rfl⟩)
                       | (rw [g4 w' hw']; exact ⟨rfl, rfl⟩)
                       | (go_at_call_of 55 (Value.int IntKind.i64 (m : Int)); exact (head_any (some ⟨b1, o1, none⟩) (some ⟨b2, o2, none⟩) (some ⟨b3, o3, none⟩) ta ic kc lnc tc s true m _ rfl _ _ _ (V9.below hw') (unhide HZ1) (unhide HZ2)).mono fun e w'' ⟨h1, h2⟩ => ⟨h1, below_trans' hw' h2⟩)
                       | (go_at_call 55; exact (head_any (some ⟨b1, o1, none⟩) (some ⟨b2, o2, none⟩) (some ⟨b3, o3, none⟩) ta ic kc lnc tc s true (m + 1) ((m : Int) + 1) (by omega) _ _ _ (V9.below hw') (unhide HA1) (unhide HA2)).mono fun e w'' ⟨h1, h2⟩ => ⟨h1, below_trans' hw' h2⟩)
                       | (go_at_call 74; exact (before_b _ _ _ _ _ _ _ _ _ _ (unhide HBF)).mono fun e w'' ⟨h1, h2⟩ => ⟨h1, below_trans' hw' h2⟩)
                      go_big_quiet_on)))
          refine wpQuiet_nil ?_
          intro w9 hb9
          have B10 := below_trans' B9 hb9
          go_wp2
          go_roundw
          case rel =>
            refine ⟨m + 1 + 1, by omega, by go_num, HH1, hide (fun h d x y kk m' hd i1 i2 i3 i4 => ?_), B10⟩
            by_cases e : d = m
            · subst e
              rw [unhide HZ1] at i1
              rw [unhide HZ2] at i2
              rw [unhide HA1] at i3
              rw [unhide HA2] at i4
              cases i1; cases i2; cases i3; cases i4
              exact unhide HBF
            · exact unhide HU0 h d x y kk m' (by omega) i1 i2 i3 i4
          case measure => simp [intOf]; omega
    · have HP : Hid (HeadsP s so) := hide ⟨hn64, unhide N2, unhide N3, unhide HND, fun d x k n g1 g2 g3 => unhide HH0 d x k n (by have := (List.getElem?_eq_some_iff.1 g1).1; omega) g1 g2 g3, fun h d x y k m g1 g2 g3 g4 => unhide HU0 h d x y k m (by have := (List.getElem?_eq_some_iff.1 g3).1; omega) g1 g2 g3 g4⟩
      go_wp2
      go_ret
      exact ⟨true, rfl, ⟨fun _ => unhide HP, fun _ => rfl⟩, below_trans' BB hbel⟩
end Go.Proofs.YtnahjaloodeicaaGreat

/-
  The contract of lay, at any postings: a word put down at all of its places, or not.
-/
namespace Go.Proofs.YtnahjaloodeicaaGreat
set_option maxRecDepth 100000
open Go.RowKit Go.WideMaps Go.Maps

/-- '_, taken := stands[here]' at a place that is taken. -/
theorem lookup_taken {ops : Array Oper} {rest : List Oper} {o : Oper} {a : Act} {Q : Exit → Act → World → Prop} {w : World} {b n : Nat} {M : DataW Unit} {dn : List S.Spot} {d k : Int} {i : Nat} (hg : o.guard = none) (m x : Operand) (hop : o.op = Op.lookup 61 m x true) (hm : a.eval m = .map (some b))
    (ho : Map8 w b n M) (hT : Tel M dn) (hd : (Lit.int .i64 d).wf = true) (hk : (Lit.int .i64 k).wf = true) (hf : ((d, k), i) ∈ dn) (hx : a.eval x = .agg #[.int .i64 d, .int .i64 k])
    (hK : ∀ c : Int, wpList Tryz.prog ops Q rest (a.put o.dst (.tuple #[.int .i64 c, .bool true])) w) : wpList Tryz.prog ops Q (o :: rest) a w := by
  obtain ⟨l, hl⟩ := key8 d k hd hk
  refine wpList_lookup_own_ok_int _ hg m x _ hop 100 3 .i64 keyed8 Tryz.underlying61 Tryz.underlying3 (zero3 _) b n M hm ho _ _ hx hl ?_
  intro c _ _
  rw [(hT.2.1 _ hf l hl).1]
  exact hK c

/-- What lay asks of the postings of a word. -/
def LayOK (L : List Pt) (i : Nat) (lens : List Int) (dn : List S.Spot) : Prop :=
  0 < L.length ∧ Q.may L = true ∧ ((dn ++ L.flatMap (S.sp i)).map (·.1)).Nodup ∧ ∀ p ∈ L, ∀ k ∈ p.a, ∃ d : Nat, p.d = d ∧ ∃ z, lens[d]? = some z ∧ k < z
def LayEnd (w : World) (b : Nat) (L : List Pt) (i : Nat) (lens : List Int) (dn : List S.Spot) (e : Ending) (w' : World) : Prop :=
  ∃ r : Bool, e = .returned (.bool r) ∧ (r = true ↔ LayOK L i lens dn) ∧ (r = true → ∃ M', Map8 w' b (dn ++ L.flatMap (S.sp i)).length M' ∧ Tel M' (dn ++ L.flatMap (S.sp i))) ∧ w.grownBy w' (some b)
theorem lay_no {w w' : World} {b : Nat} {L : List Pt} {i : Nat} {lens : List Int} {dn : List S.Spot} (h : ¬ LayOK L i lens dn) (hg : w.grownBy w' (some b)) : LayEnd w b L i lens dn (.returned (.bool false)) w' :=
  ⟨false, rfl, ⟨fun h => by (cases h), fun h9 => absurd h9 h⟩, (fun h => by cases h), hg⟩
theorem nodup_snoc {dj : List S.Spot} {d x : Int} {i : Nat} (h : (dj.map (·.1)).Nodup) (hf : ∀ i', ((d, x), i') ∉ dj) : ((dj ++ [((d, x), i)]).map (·.1)).Nodup := by
  rw [List.map_append, List.nodup_append]
  refine ⟨h, by simp, fun a ha b hb e => ?_⟩
  simp only [List.map_cons, List.map_nil, List.mem_singleton] at hb
  subst hb
  subst e
  obtain ⟨⟨y, i'⟩, hy, he⟩ := List.mem_map.1 ha
  simp only at he
  subst he
  exact hf i' hy
theorem Q.may_spots {L : List Pt} {i : Nat} (h : Q.may L = true) : ∀ k, ((L.take k).flatMap (S.sp i)).length ≤ k * 120
  | 0 => by simp
  | k + 1 => by
    have ih := Q.may_spots (i := i) h k
    cases hk : L[k]? with
    | none =>
      rw [List.getElem?_eq_none_iff] at hk
      rw [List.take_of_length_le (by omega)] at ih ⊢
      omega
    | some p =>
      rw [take_snoc8 hk, List.flatMap_append, List.length_append]
      have h2 := (Q.may_all (m := 0) h p (List.mem_of_getElem? hk)).2
      have := (Q.places_le h2).2
      have e : ([p].flatMap (S.sp i)).length = p.a.length := by simp [S.sp]
      omega

set_option maxRecDepth 100000 in
set_option maxHeartbeats 4000000 in
theorem lay_all (b : Nat) (lv : Value) (lens : List Int) (i : Nat) (pv : Value) (L : List Pt) (w : World) (M0 : DataW Unit) (dn : List S.Spot) (ho0 : Map8 w b dn.length M0) (hT0 : Tel M0 dn) (hl : Sl .i64 w lv lens) (hp : Pl w pv L) (hn0 : (dn.map (·.1)).Nodup) (hbig : dn.length ≤ 4000000) (hi : i ≤ 1000) :
    Calls Tryz.prog 54 #[.map (some b), lv, .int .i64 (i : Int), pv] w (LayEnd w b L i lens dn) := by
  obtain ⟨a, cap, rfl, hpl, hpm, hpa, hpo⟩ := hp.open
  obtain ⟨a2, cap2, rfl, hll, hlm, hla, hlo⟩ := hl.open
  have HT0 := hide hT0
  have HN0 := hide hn0
  have CM := pmay_any _ _ _ hp
  clear hT0 hn0
  by_cases hL0 : L.length = 0
  · have h0 : ((L.length : Int) == 0) = true := by rw [hL0]; rfl
    have HNO := hide (show ¬ LayOK L i lens dn from fun h9 => by have := h9.1; omega)
    clear CM
    go_enter Tryz.func54, Tryz.ntmps54
    go_wp2
    go_ret
    exact lay_no (unhide HNO) (grown_below (Below.refl _ _) _)
  have h0 : ((L.length : Int) == 0) = false := beq_eq_false_iff_ne.2 (by omega)
  cases hmay : Q.may L with
  | false =>
    rw [hmay] at CM
    have HNO := hide (show ¬ LayOK L i lens dn from fun h9 => by have := h9.2.1; rw [hmay] at this; cases this)
    clear hmay
    go_enter Tryz.func54, Tryz.ntmps54
    go_wp2_with (go_at_call 75; refine CM.mono ?_; rintro e w1 ⟨rfl, B1⟩)
    go_ret
    exact lay_no (unhide HNO) (grown_below B1 _)
  | true =>
  rw [hmay] at CM
  have hmk : ∀ p ∈ L, (0 ≤ p.d ∧ p.d < 64) ∧ ∀ y ∈ p.a, 0 ≤ y ∧ y < 120 := fun p hp => by
    obtain ⟨h1, h2⟩ := Q.may_all (m := 0) hmay p hp
    exact ⟨h1, fun y hy => Q.rise_le (Q.places_rise h2) y hy⟩
  have HIN := hide hmk
  have hl64 := Q.may_le hmay
  have HSP : Hid (∀ k, ((L.take k).flatMap (S.sp i)).length ≤ k * 120) := hide (Q.may_spots hmay)
  have HPA : Hid (∀ p ∈ L, p.a.length ≤ 120) := hide (fun p hp => (Q.places_le (Q.may_all (m := 0) hmay p hp).2).2)
  have HMY := hide hmay
  clear hmk hmay
  go_enter Tryz.func54, Tryz.ntmps54
  go_wp2_with (go_at_call 75; refine CM.mono ?_; rintro e w1 ⟨rfl, B1⟩)
  have M1 : Map8 w1 b dn.length M0 := map_keep ho0 (B1.block _ ho0.lt)
  have g1 : w.grownBy w1 (some b) := grown_below B1 _
  clear B1 CM hp hl
  go_loopw [26] (fun iv wr => ∃ (k : Nat) (M : DataW Unit) (dk : List S.Spot), k ≤ L.length ∧ iv = .int .i64 k ∧ Hid (dk = dn ++ (L.take k).flatMap (S.sp i)) ∧ Hid ((dk.map (·.1)).Nodup) ∧ Hid (∀ q ∈ L.take k, ∀ y ∈ q.a, ∃ d : Nat, q.d = d ∧ ∃ z, lens[d]? = some z ∧ y < z) ∧ Map8 wr b dk.length M ∧ Hid (Tel M dk) ∧ w.grownBy wr (some b)) (fun iv _ => L.length - (intOf iv).toNat)
  case atStart => exact ⟨0, M0, dn, Nat.zero_le _, rfl, by (show _ = _; simp), HN0, hide (fun q hq => by simp at hq), M1, HT0, g1⟩
  case round =>
    clear M1 g1
    obtain ⟨k, M, dk, hk, rfl, HD, HDN, HDI, hown, HT, hg⟩ := hrel
    have hSt := Stays.of_map (map_block ho0).choose_spec.choose_spec hg
    by_cases hlt : k < L.length
    · obtain ⟨bb, off, rfl, hbb, hc⟩ := hpo (by omega)
      obtain ⟨p, hx⟩ : ∃ p, L[k]? = some p := ⟨L[k], List.getElem?_eq_getElem hlt⟩
      obtain ⟨da, dc, c0, c1, S2⟩ := hc k p hx
      have d0 := hSt _ _ c0
      have d1 := hSt _ _ c1
      have HX := hide hx
      have hpb : wr.heap.size < (wr.alloc (.cells #[.int .i64 p.d, .slice da p.a.length dc] 58)).heap.size := by simp
      obtain ⟨sa, sc, hv', hsl, hsm, -, hoA⟩ := S2.open
      simp only [Value.slice.injEq, true_and] at hv'
      obtain ⟨rfl, rfl⟩ := hv'
      have MW := hown.alloc (.cells #[.int .i64 p.d, .slice da p.a.length dc] 58)
      have GW := grown_all hg (.cells #[.int .i64 p.d, .slice da p.a.length dc] 58)
      have zW : (wr.alloc (.cells #[.int .i64 p.d, .slice da p.a.length dc] 58)).cell? ⟨wr.heap.size, 0, none⟩ = some (.int .i64 p.d) := by simp
      have hpp := unhide HIN p (List.mem_of_getElem? hx)
      obtain ⟨d, hpd⟩ := Int.eq_ofNat_of_zero_le hpp.1.1
      have hd64 : d < 64 := by omega
      have HPX := hide hpp.2
      have hpl120 := unhide HPA p (List.mem_of_getElem? hx)
      have hdk : dk.length ≤ dn.length + k * 120 := by rw [unhide HD, List.length_append]; have := unhide HSP k; omega
      have HPD := hide hpd
      clear hpp
      rename World => w9
      clear hc c0 c1 hx hown hg hpd
      go_wp2
      go_loopw [33] (fun jv wr => ∃ (j : Nat) (M : DataW Unit) (dj : List S.Spot), j ≤ p.a.length ∧ jv = .int .i64 j ∧ Hid (dj = dk ++ (p.a.take j).map (fun y => ((p.d, y), i))) ∧ Hid ((dj.map (·.1)).Nodup) ∧ Hid (∀ y ∈ p.a.take j, ∃ z, lens[d]? = some z ∧ y < z) ∧ Map8 wr b dj.length M ∧ Hid (Tel M dj) ∧ w.grownBy wr (some b) ∧ wr.cell? ⟨w9.heap.size, 0, none⟩ = some (.int .i64 p.d)) (fun jv _ => p.a.length - (intOf jv).toNat)
      case atStart => exact ⟨0, M, dk, Nat.zero_le _, rfl, by (show _ = _; simp), HDN, hide (fun y hy => by simp at hy), MW, HT, GW, zW⟩
      case round =>
        clear MW GW zW hSt d0 d1 HT
        obtain ⟨j, M2, dj, hj, rfl, HDJ, HJN, HJI, hown, HT, hg, zp⟩ := hrel
        have hSt := Stays.of_map (map_block ho0).choose_spec.choose_spec hg
        by_cases hlt2 : j < p.a.length
        · obtain ⟨b1, off1, rfl, hb1, hc1⟩ := hoA (by omega)
          obtain ⟨x, hx⟩ : ∃ x, p.a[j]? = some x := ⟨p.a[j], List.getElem?_eq_getElem hlt2⟩
          have e0 : wr.cell? ⟨b1, off1 + j, none⟩ = some (.int .i64 x) := by
            have := hSt _ _ (hc1 j hlt2)
            simpa [List.getD, hx] using this
          obtain ⟨hx0, hx1⟩ := unhide HPX x (List.mem_of_getElem? hx)
          have HXJ := hide hx
          have HLT := hide hlt2
          have hwd : (Lit.int .i64 (d : Int)).wf = true := WalkArith.wf_i64 (by omega)
          have hwx : (Lit.int .i64 x).wf = true := by
            obtain ⟨xn, rfl⟩ := Int.eq_ofNat_of_zero_le hx0
            exact WalkArith.wf_i64 (by omega)
          rw [unhide HPD] at zp
          have hbj : dj.length ≤ 5000000 := by
            have e9 := congrArg List.length (unhide HDJ)
            rw [List.length_append, List.length_map] at e9
            have := List.length_take_le j p.a
            omega
          have hzp : w9.heap.size < wr.heap.size := World.block_lt_of_cell? wr _ zp
          have hown' := hown.alloc (.cells #[.int .i64 (d : Int), .int .i64 x] 100)
          have hg' := grown_all hg (.cells #[.int .i64 (d : Int), .int .i64 x] 100)
          clear hc1 hx
          by_cases htk : ∃ i', (((d : Int), x), i') ∈ dj
          · obtain ⟨i', hi'⟩ := htk
            have HNO := hide (show ¬ LayOK L i lens dn from fun h9 => by
              refine free_at h9.2.2.1 (unhide HX) (unhide HXJ) i' ?_
              rw [unhide HDJ, unhide HD] at hi'
              rw [unhide HPD]
              rw [unhide HPD] at hi'
              exact hi')
            have HI' := hide hi'
            clear hown hi'
            go_wp2_with (at_lookup; refine lookup_taken rfl _ _ rfl rfl hown' (unhide HT) hwd hwx (unhide HI') rfl ?_; intro cc)
            go_ret
            exact lay_no (unhide HNO) hg'
          have HF : Hid (∀ i', (((d : Int), x), i') ∉ dj) := hide (fun i' hi' => htk ⟨i', hi'⟩)
          by_cases hdl : d < lens.length
          · obtain ⟨z, hz⟩ : ∃ z, lens[d]? = some z := ⟨lens[d], List.getElem?_eq_getElem hdl⟩
            obtain ⟨b2, off2, rfl, hb2, hc2⟩ := hlo (by omega)
            have e1 : wr.cell? ⟨b2, off2 + d, none⟩ = some (.int .i64 z) := by
              have := hSt _ _ (hc2 d hdl)
              simpa [List.getD, hz] using this
            have hdl' : (d : Int) < (lens.length : Int) := by omega
            have hb2' : b2 < wr.heap.size := World.block_lt_of_cell? wr _ e1
            have HZ := hide hz
            clear hc2 hz
            by_cases hxz : x < z
            · have hxz' : ¬ z ≤ x := by omega
              have HS9K := hide (nodup_snoc (i := i) (unhide HJN) (unhide HF))
              obtain ⟨l9, hl9⟩ := key8 (d : Int) x hwd hwx
              have HS9 := hide ((unhide HT).step (hown.tidy keyed8) hl9 (unhide HF) i)
              have zp' := cell_keep zp (below_alloc wr (.cells #[.int .i64 (d : Int), .int .i64 x] 100))
              go_wp2_with (first
                | (at_lookup; refine lookup_free rfl _ _ rfl rfl hown' (unhide HT) hwd hwx (unhide HF) rfl ?_; intro cc)
                | (at_mapUpdate; refine wpList_mapUpdate_own _ rfl _ _ _ 61 rfl 100 3 keyed8 Tryz.underlying61 _ b dj.length M2 rfl hown' (by unfold maxLen; omega) _ _ _ rfl rfl hl9 _ [] (plainElem_int Tryz.underlying3 (WalkArith.wf_i64 (by omega))) ?_))
              intro w1 hown1 hgrow1
              have zp1 := Stays.of_map (map_block hown').choose_spec.choose_spec hgrow1 _ _ zp'
              have hg1 := hg'.trans hgrow1
              clear hgrow1 zp' hg' hown' zp
              go_wp2
              go_roundw
              case rel =>
                refine ⟨j + 1, _, dj ++ [(((d : Int), x), i)], by have := unhide HLT; omega, by go_num, ?_, HS9K, ?_, by simpa using hown1, unhide HS9, hg1, by rw [unhide HPD]; exact zp1⟩
                · show _ = _
                  rw [unhide HDJ, take_snoc8 (unhide HXJ), List.map_append, unhide HPD]
                  simp
                · intro y hy
                  rw [take_snoc8 (unhide HXJ)] at hy
                  rcases List.mem_append.1 hy with h9 | h9
                  · exact unhide HJI y h9
                  · simp only [List.mem_singleton] at h9
                    subst h9
                    exact ⟨z, unhide HZ, hxz⟩
              case measure => (have := unhide HLT; simp [intOf]; omega)
            · have hxz' : z ≤ x := by omega
              have HNO := hide (show ¬ LayOK L i lens dn from fun h9 => by
                obtain ⟨d', e1, z', e2, e3⟩ := h9.2.2.2 p (List.mem_of_getElem? (unhide HX)) x (List.mem_of_getElem? (unhide HXJ))
                rw [unhide HPD] at e1
                obtain rfl : d = d' := by omega
                rw [unhide HZ] at e2
                cases e2
                omega)
              clear hown
              go_wp2_with (at_lookup; refine lookup_free rfl _ _ rfl rfl hown' (unhide HT) hwd hwx (unhide HF) rfl ?_; intro cc)
              go_ret
              exact lay_no (unhide HNO) hg'
          · have hdl' : (lens.length : Int) ≤ (d : Int) := by omega
            have HNO := hide (show ¬ LayOK L i lens dn from fun h9 => by
              obtain ⟨d', e1, z', e2, e3⟩ := h9.2.2.2 p (List.mem_of_getElem? (unhide HX)) x (List.mem_of_getElem? (unhide HXJ))
              rw [unhide HPD] at e1
              have := (List.getElem?_eq_some_iff.1 e2).1
              omega)
            clear hown
            go_wp2_with (at_lookup; refine lookup_free rfl _ _ rfl rfl hown' (unhide HT) hwd hwx (unhide HF) rfl ?_; intro cc)
            go_ret
            exact lay_no (unhide HNO) hg'
        · have hjl : j = p.a.length := by omega
          go_wp2
          go_roundw
          case rel =>
            have e2 : p.a.take j = p.a := List.take_of_length_le (by omega)
            refine ⟨k + 1, M2, dj, by omega, by go_num, ?_, HJN, ?_, hown, HT, hg⟩
            · show _ = _
              rw [unhide HDJ, e2, unhide HD, take_snoc8 (unhide HX)]
              simp [S.sp]
            · intro q hq y hy
              rw [take_snoc8 (unhide HX)] at hq
              rcases List.mem_append.1 hq with h9 | h9
              · exact unhide HDI q h9 y hy
              · simp only [List.mem_singleton] at h9
                subst h9
                obtain ⟨z, hz, hyz⟩ := unhide HJI y (by rw [e2]; exact hy)
                exact ⟨d, unhide HPD, z, hz, hyz⟩
          case measure => simp [intOf]; omega
    · have e : dk = dn ++ L.flatMap (S.sp i) := by rw [unhide HD, List.take_of_length_le (by omega)]
      subst e
      go_wp2
      go_ret
      exact ⟨true, rfl, ⟨fun _ => ⟨by omega, unhide HMY, unhide HDN, fun p hp => unhide HDI p (by rw [List.take_of_length_le (by omega)]; exact hp)⟩, fun _ => rfl⟩, fun _ => ⟨M, hown, unhide HT⟩, hg⟩
end Go.Proofs.YtnahjaloodeicaaGreat

/-
  The contract of look, at a segment that may be: which of its words stands where.
-/
namespace Go.Proofs.YtnahjaloodeicaaGreat
set_option maxRecDepth 100000
open Go.RowKit Go.WideMaps Go.Maps

theorem run_makeMapN (n : Int) (w : World) : (Instr.makeMap 61 (some (.int .i64 n))).run Tryz.prog w = .ok (.map (some w.heap.size)) (w.alloc (.map #[] 0)) := by kernel_rfl

theorem Valid.words {s : Sg} {l : List Cd} {so : Bool} (h : Valid s l so) : s.ts.map (·.t) = S.words l := by
  obtain ⟨rfl, -⟩ := h
  simp [S.seg, S.term, Function.comp_def]
theorem Valid.spots {s : Sg} {l : List Cd} {so : Bool} (h : Valid s l so) : S.spots 0 s.ts = S.laid l := by
  obtain ⟨rfl, -⟩ := h
  rfl
theorem Valid.term {s : Sg} {l : List Cd} {so : Bool} (h : Valid s l so) {k : Nat} {t : Tm} (ht : s.ts[k]? = some t) : t = S.term l t.t ∧ (S.words l)[k]? = some t.t := by
  obtain ⟨rfl, -⟩ := h
  change ((S.words l).map (S.term l))[k]? = some t at ht
  rw [List.getElem?_map] at ht
  obtain ⟨x, hx, rfl⟩ := Option.map_eq_some_iff.1 ht
  exact ⟨rfl, hx⟩

/-- What lay asks of a word of a segment that may be. -/
theorem Valid.lay {s : Sg} {l : List Cd} {so : Bool} (h : Valid s l so) {k : Nat} {t : Tm} (ht : s.ts[k]? = some t) : 0 < t.p.length ∧ Q.may t.p = true ∧ ((S.spots 0 (s.ts.take k) ++ t.p.flatMap (S.sp k)).map (·.1)).Nodup ∧
    (∀ p ∈ t.p, ∀ y ∈ p.a, ∃ d : Nat, p.d = d ∧ d < 64 ∧ 0 ≤ y ∧ y < 120 ∧ ∃ z, s.lens[d]? = some z ∧ y < z) ∧ (S.spots 0 (s.ts.take k) ++ t.p.flatMap (S.sp k)).length ≤ 100000 := by
  obtain ⟨e1, e2⟩ := h.term ht
  have hl := h.2.len
  have hw : ∀ c ∈ l, c.w.length ≤ 120 := fun c hc => (S.fits_w (h.2.fit c hc)).1
  have hsub : ∃ rest, S.laid l = S.spots 0 (s.ts.take k) ++ t.p.flatMap (S.sp k) ++ rest := by
    rw [← S.spots_snoc ht, ← h.spots]
    refine ⟨S.spots (0 + (s.ts.take (k + 1)).length) (s.ts.drop (k + 1)), ?_⟩
    rw [← S.spots_app, List.take_append_drop]
  obtain ⟨rest, hrest⟩ := hsub
  have hp : t.p = (S.posts l t.t).map S.pt := by rw [e1]; rfl
  refine ⟨?_, ?_, ?_, ?_, ?_⟩
  · have := S.posts_some (List.mem_of_getElem? e2)
    rw [hp, List.length_map]
    exact List.length_pos_iff.2 this
  · rw [hp]
    exact S.posts_may hl hw _
  · have := S.laid_keys l
    rw [hrest, List.map_append, List.nodup_append] at this
    exact this.1
  · intro p hpm y hy
    rw [hp] at hpm
    obtain ⟨q, hq, rfl⟩ := List.mem_map.1 hpm
    obtain ⟨d, c, hc, rfl, -⟩ := S.mem_posts.1 hq
    obtain ⟨j, rfl, hj⟩ := S.mem_places.1 hy
    have hd := (List.getElem?_eq_some_iff.1 hc).1
    have hjl := (List.getElem?_eq_some_iff.1 hj).1
    have := hw c (List.mem_of_getElem? hc)
    exact ⟨d, rfl, by omega, by omega, by omega, _, (h.at hc).2.2, by omega⟩
  · have h1 := S.laid_len l
    have h2 := S.total_le hw
    rw [hrest] at h1
    simp only [List.length_append] at h1 ⊢
    omega

theorem sum_step {l : List Int} {k : Nat} {x : Int} (h : l[k]? = some x) : (l.take (k + 1)).sum = (l.take k).sum + x := by
  rw [take_snoc8 h, List.sum_append]
  simp
theorem sum_total (l : List Cd) : (l.map (fun c => (c.w.length : Int))).sum = (S.total l : Int) := by
  unfold S.total
  induction l with
  | nil => rfl
  | cons c l ih => simp only [List.map_cons, List.sum_cons, ih]; omega

set_option maxRecDepth 100000 in
set_option maxHeartbeats 4000000 in
theorem look_any (ia ka lna ta : Option Addr) (ic kc lnc tc : Nat) (s : Sg) (so : Bool) (l : List Cd) (w : World) (h : Sv w (.slice ia s.ids.length ic) (.slice ka s.keys.length kc) (.slice lna s.lens.length lnc) (.slice ta s.ts.length tc) s) (hV : Valid s l so) :
    Calls Tryz.prog 27 #[.agg #[.slice ia s.ids.length ic, .slice ka s.keys.length kc, .slice lna s.lens.length lnc, .slice ta s.ts.length tc, .bool so]] w fun e w' => ∃ b M, e = .returned (.tuple #[.map (some b), .bool true]) ∧ Map8 w' b (S.laid l).length M ∧ Tel M (S.laid l) ∧ Below w.heap.size w w' := by
  obtain ⟨n1, n2, n3, n4⟩ := hV.lens
  have h64 := hV.2.len
  have h200 := hV.2.few
  have hW120 : ∀ c ∈ l, c.w.length ≤ 120 := fun c hc => (S.fits_w (hV.2.fit c hc)).1
  have hmm := fun n w => run_makeMapN n w
  obtain ⟨W, hW⟩ : ∃ W, W = w.alloc (.cells #[.slice ia s.ids.length ic, .slice ka s.keys.length kc, .slice lna s.lens.length lnc, .slice ta s.ts.length tc, .bool so] 30) := ⟨_, rfl⟩
  have BW : Below w.heap.size w W := by rw [hW]; exact below_alloc _ _
  have X0 : W.heap[w.heap.size]? = some (.cells #[.slice ia s.ids.length ic, .slice ka s.keys.length kc, .slice lna s.lens.length lnc, .slice ta s.ts.length tc, .bool so] 30 (0, 0)) := by rw [hW]; exact heap_alloc_new w _
  have HV := h.below BW
  have HW := hide hW
  clear hW
  have CH := mayHeads_any ia ka lna ta ic kc lnc tc s so l W HV hV
  have HVA := hide hV
  have HMAY := hide hV.2.may
  have hwd := hide hV.words
  have hsum : s.lens.sum = (S.total l : Int) := by rw [hV.1]; exact sum_total l
  have HSUM := hide hsum
  have htot := S.total_le hW120
  have hln : s.lens.length ≤ 64 := by omega
  have htn : s.ts.length ≤ 200 := by omega
  clear hV h hsum n1 n2 n3 n4
  go_enter Tryz.func27, Tryz.ntmps27
  go_wp2_with fail
  rw [← unhide HW]
  refine CH.mono ?_
  rintro e w1 ⟨rfl, B1⟩
  have X1 := box_below X0 B1
  have BB := below_trans' BW B1
  have HV1 := HV.below B1
  have x0 := box_cell X1 (j := 0) rfl
  have x1 := box_cell X1 (j := 1) rfl
  have x2 := box_cell X1 (j := 2) rfl
  have x3 := box_cell X1 (j := 3) rfl
  have x4 := box_cell X1 (j := 4) rfl
  clear B1 X0 CH HV
  go_wp2_with fail
  refine (wordsOf_any ia ka lna ta ic kc lnc tc s so _ HV1 (by omega)).mono ?_
  rintro e w2 ⟨v2, rfl, G2, B2⟩
  rw [unhide hwd] at G2
  have X2 := box_below X1 B2
  have BB2 := below_trans' BB B2
  have HV2 := HV1.below B2
  clear B2 X1 HV1 BB x0 x1 x2 x3 x4
  have x2 := box_cell X2 (j := 2) rfl
  have x3 := box_cell X2 (j := 3) rfl
  go_wp2_with (go_at_call 53; refine (may_any _ _ _ G2 _ (unhide HMAY)).mono ?_; rintro e w3 ⟨rfl, rfl⟩)
  obtain ⟨a', c', hv', -, -, -, hoL⟩ := HV2.2.2.1.open
  simp only [Value.slice.injEq, true_and] at hv'
  obtain ⟨rfl, rfl⟩ := hv'
  go_loop [4, 22] (fun mv iv => ∃ (k : Nat) (m : Int), k ≤ s.lens.length ∧ iv = .int .i64 k ∧ mv = .int .i64 m ∧ Hid (m = (s.lens.take k).sum) ∧ 0 ≤ m ∧ m ≤ (k : Int) * 120) (fun _ iv => s.lens.length - (intOf iv).toNat)
  case atStart => exact ⟨0, 0, Nat.zero_le _, rfl, rfl, rfl, by omega, by omega⟩
  case round =>
    obtain ⟨k, m, hk, rfl, rfl, HM, hm0, hm1⟩ := hrel
    by_cases hlt : k < s.lens.length
    · obtain ⟨b, off, rfl, hb, hc⟩ := hoL (by omega)
      obtain ⟨c, hx⟩ : ∃ c, l[k]? = some c := ⟨l[k]'(by have := (unhide HVA).lens; omega), List.getElem?_eq_getElem _⟩
      obtain ⟨-, -, a3⟩ := (unhide HVA).at hx
      have e1 := hc k hlt
      rw [show s.lens.getD k 0 = (c.w.length : Int) by simp [List.getD, a3]] at e1
      have hcl := hW120 c (List.mem_of_getElem? hx)
      have HST := hide (sum_step a3)
      clear hc hx a3
      go_wp2
      go_round
      case rel => exact ⟨k + 1, m + (c.w.length : Int), by omega, by go_num, by go_num, by (show _ = _; rw [unhide HST, unhide HM]), by omega, by omega⟩
      case measure => simp [intOf]; omega
    · have hm : m = (S.total l : Int) := by rw [unhide HM, List.take_of_length_le (by omega)]; exact unhide HSUM
      have HMT := hide hm
      have mk := hmm m
      have HTM := HV2.2.2.2
      have HLN := HV2.2.2.1
      have hZ3 : w.heap.size < w3.heap.size := (Array.getElem?_eq_some_iff.1 X2).1
      have m0 : Map8 (w3.alloc (.map #[] 0)) w3.heap.size 0 (.map []) := World.ownsMap_made _ _ _ _
      have b0 : Below w3.heap.size w3 (w3.alloc (.map #[] 0)) := below_alloc _ _
      clear hm HM hmm
      go_wp2
      go_loopw [35] (fun iv wr => ∃ (j : Nat) (M : DataW Unit) (dj : List S.Spot), j ≤ s.ts.length ∧ iv = .int .i64 j ∧ Hid (dj = S.spots 0 (s.ts.take j)) ∧ Map8 wr w3.heap.size dj.length M ∧ Hid (Tel M dj) ∧ Below w3.heap.size w3 wr) (fun iv _ => s.ts.length - (intOf iv).toNat)
      case atStart => exact ⟨0, _, [], Nat.zero_le _, rfl, rfl, m0, Tel.start, b0⟩
      case round =>
        clear m0 b0
        obtain ⟨j, M, dj, hj, rfl, HDJ, hown, HT, hbel⟩ := hrel
        have HTR := HTM.below hbel
        have HLR := HLN.below hbel
        have XR := (hbel.block _ hZ3).trans X2
        have hw3r := hbel.size
        by_cases hlt2 : j < s.ts.length
        · obtain ⟨a', c', hv', -, -, -, hoT⟩ := HTR.open
          simp only [Value.slice.injEq, true_and] at hv'
          obtain ⟨rfl, rfl⟩ := hv'
          obtain ⟨b, off, rfl, hb, hc⟩ := hoT (by omega)
          obtain ⟨t, hx⟩ : ∃ t, s.ts[j]? = some t := ⟨s.ts[j], List.getElem?_eq_getElem hlt2⟩
          obtain ⟨pa, pc, c0, c1, P2⟩ := hc j t hx
          obtain ⟨l1, l2, l3, l4, l5⟩ := (unhide HVA).lay hx
          rw [← unhide HDJ] at l3 l5
          have BT := below_alloc wr (.cells #[.string t.t, .slice pa t.p.length pc] 69)
          have CL := lay_any w3.heap.size _ s.lens j _ t.p _ M dj (hown.alloc (.cells #[.string t.t, .slice pa t.p.length pc] 69)) (unhide HT) (HLR.below BT) (P2.below BT) l1 l2 l3 l4 l5 (by omega)
          have HSN := hide (S.spots_snoc hx)
          have x2 := box_cell XR (j := 2) rfl
          have hzr : w.heap.size < wr.heap.size := by omega
          have hbel1 := hbel.alloc hbel.size (.cells #[.string t.t, .slice pa t.p.length pc] 69)
          clear hc hx P2 l1 l2 l3 l4 l5 HTR HLR XR HT
          go_wp2_with (go_at_call 54; refine CL.mono ?_; rintro e w4 ⟨rfl, M4, O4, T4, g4⟩)
          have B4 := hbel1.grown g4 (by simp; omega) (fun i hi => by cases hi; exact Nat.le_refl _)
          have HT4 := hide T4
          clear g4 T4 CL hown hbel hbel1
          go_roundw
          case rel => exact ⟨j + 1, M4, dj ++ t.p.flatMap (S.sp j), by omega, by go_num, by (show _ = _; rw [unhide HSN, unhide HDJ]), O4, unhide HT4, B4⟩
          case measure => simp [intOf]; omega
        · have e : dj = S.laid l := by rw [unhide HDJ, List.take_of_length_le (by omega)]; exact (unhide HVA).spots
          subst e
          have hsz : ((Maps.size M : Nat) : Int) = m := by rw [(unhide HT).2.2.2, S.laid_len, unhide HMT]
          have hq : (((Maps.size M : Nat) : Int) == m) = true := by simp [hsz]
          have HSZ := hide hsz
          clear hsz HTR HLR XR
          go_wp2_with (at_len; refine wpList_len_own _ rfl _ 61 rfl 100 3 Tryz.underlying61 _ w3.heap.size (S.laid l).length M rfl hown ?_)
          go_ret2
          exact ⟨_, M, rfl, hown, unhide HT, below_trans' BB2 hbel⟩
end Go.Proofs.YtnahjaloodeicaaGreat

/-
  The contract of wordsOf, at any segment that has room in memory.
-/
namespace Go.Proofs.YtnahjaloodeicaaGreat
set_option maxRecDepth 100000
open Go.RowKit

set_option maxRecDepth 100000 in
set_option maxHeartbeats 2000000 in
theorem wordsOf9_any (ia ka lna ta : Option Addr) (ic kc lnc tc : Nat) (s : Sg) (so : Bool) (w : World) (h : Sv w (.slice ia s.ids.length ic) (.slice ka s.keys.length kc) (.slice lna s.lens.length lnc) (.slice ta s.ts.length tc) s) (hl : s.ts.length ≤ 3518437208780) :
    Calls Tryz.prog 44 #[.agg #[.slice ia s.ids.length ic, .slice ka s.keys.length kc, .slice lna s.lens.length lnc, .slice ta s.ts.length tc, .bool so]] w fun e w' => ∃ v', e = .returned v' ∧ Gl .string w' v' (s.ts.map (·.t)) ∧ Below w.heap.size w w' := by
  obtain ⟨i9, hi9, hz90, hz91, hz92⟩ := info_parts Tryz.infoS
  have HT := h.2.2.2
  go_enter Tryz.func44, Tryz.ntmps44
  go_wp2
  go_loopw [3, 9] (fun ov iv wr => ∃ (k : Nat) (pre : List ByteArray), k ≤ s.ts.length ∧ iv = .int .i64 k ∧ Hid (pre = (s.ts.take k).map (·.t)) ∧ pre.length ≤ k ∧ wr.ownsRow w.heap.size 9 1 ov pre.length (pre.map Value.string) ∧ Below w.heap.size w wr) (fun _ iv _ => s.ts.length - (intOf iv).toNat)
  case atStart => exact ⟨0, [], Nat.zero_le _, rfl, rfl, Nat.zero_le _, World.ownsRow_nil _ _ _ _, below_alloc _ _⟩
  case round =>
    obtain ⟨k, pre, hk, rfl, HP, hpl, hown, hbel⟩ := hrel
    by_cases hlt : k < s.ts.length
    · obtain ⟨a', c', hv', -, -, -, ho⟩ := (HT.below hbel).open
      simp only [Value.slice.injEq, true_and] at hv'
      obtain ⟨rfl, rfl⟩ := hv'
      obtain ⟨b, off, rfl, hb, hc⟩ := ho (by omega)
      obtain ⟨t, hx⟩ : ∃ t, s.ts[k]? = some t := ⟨s.ts[k], List.getElem?_eq_getElem hlt⟩
      obtain ⟨wa, wc, c0, c1, -⟩ := hc k t hx
      have HTS := hide (take_snoc8 hx)
      have O1 := hown.alloc (.cells #[.string t.t, .slice wa t.p.length wc] 69)
      have B1 := hbel.alloc hbel.size (.cells #[.string t.t, .slice wa t.p.length wc] 69)
      have hbs := hbel.size
      clear ho hc hx
      go_wp2_with (at_builtin; refine append_oneL (f := Value.string) rfl _ _ 26 rfl Tryz.underlying26 hi9 hz90 hz91 hz92 rfl (fun _ => rfl) (pre := pre) t.t rfl rfl (by simp) O1 (by simp; omega) (by omega) (by omega) ?_; intro g5 q5 w5 O5 g5' l5)
      have B5 := B1.grown g5' (by simp; omega) (fun j hj => (O1.lt j hj).1)
      clear g5' l5 O1 B1 hown
      go_roundw
      case rel =>
        refine ⟨k + 1, pre ++ [t.t], by omega, by go_num, ?_, by simp; omega, O5, B5⟩
        show _ = _
        rw [unhide HTS, List.map_append, ← unhide HP]; rfl
      case measure => simp [intOf]; omega
    · have hpre : pre = s.ts.map (·.t) := by rw [unhide HP, List.take_of_length_le (by omega)]
      have G := Gl.owned hown
      rw [hpre] at G
      clear HP
      go_wp2
      go_ret
      exact ⟨_, rfl, G, hbel⟩
end Go.Proofs.YtnahjaloodeicaaGreat

/-
  The contracts of look and May, at any segment.
-/
namespace Go.Proofs.YtnahjaloodeicaaGreat
set_option maxRecDepth 100000
open Go.RowKit Go.WideMaps Go.Maps

/-- A segment that may be, by its parts. -/
structure MayP (s : Sg) (so : Bool) : Prop where
  heads : HeadsP s so
  words : D.may (s.ts.map (·.t)) = true
  lay : ∀ (j : Nat) (t : Tm), s.ts[j]? = some t → LayOK t.p j s.lens (S.spots 0 (s.ts.take j))
  all : ((S.spots 0 s.ts).length : Int) = s.lens.sum

def LookEnd (w : World) (s : Sg) (so : Bool) (e : Ending) (w' : World) : Prop := ∃ (v : Value) (r : Bool), e = .returned (.tuple #[v, .bool r]) ∧ (r = true ↔ MayP s so) ∧ Below w.heap.size w w'
theorem look_no {w w' : World} {s : Sg} {so : Bool} (h : ¬ MayP s so) (hb : Below w.heap.size w w') (v : Value) : LookEnd w s so (.returned (.tuple #[v, .bool false])) w' := ⟨v, false, rfl, ⟨fun h => by (cases h), fun h9 => absurd h9 h⟩, hb⟩

theorem HeadsP.len {s : Sg} {so : Bool} (h : HeadsP s so) {d : Nat} {n : Int} (hn : s.lens[d]? = some n) : 0 ≤ n ∧ n ≤ 120 := by
  have hd := (List.getElem?_eq_some_iff.1 hn).1
  have h1 : s.ids[d]? = some (s.ids[d]'(by have := h.nl; omega)) := List.getElem?_eq_getElem _
  have h2 : s.keys[d]? = some (s.keys[d]'(by have := h.nl; have := h.nk; omega)) := List.getElem?_eq_getElem _
  have := h.head d _ _ _ h1 h2 hn
  simp only [S.head, Bool.and_eq_true, decide_eq_true_eq] at this
  omega

set_option maxRecDepth 100000 in
set_option maxHeartbeats 8000000 in
theorem look_all (ia ka lna ta : Option Addr) (ic kc lnc tc : Nat) (s : Sg) (so : Bool) (w : World) (h : Sv w (.slice ia s.ids.length ic) (.slice ka s.keys.length kc) (.slice lna s.lens.length lnc) (.slice ta s.ts.length tc) s) (hsz : ∀ x ∈ s.ids, x.size ≤ maxLen) (htl : s.ts.length ≤ 3518437208780) :
    Calls Tryz.prog 27 #[.agg #[.slice ia s.ids.length ic, .slice ka s.keys.length kc, .slice lna s.lens.length lnc, .slice ta s.ts.length tc, .bool so]] w (LookEnd w s so) := by
  have hmm := fun n w => run_makeMapN n w
  obtain ⟨W, hW⟩ : ∃ W, W = w.alloc (.cells #[.slice ia s.ids.length ic, .slice ka s.keys.length kc, .slice lna s.lens.length lnc, .slice ta s.ts.length tc, .bool so] 30) := ⟨_, rfl⟩
  have BW : Below w.heap.size w W := by rw [hW]; exact below_alloc _ _
  have X0 : W.heap[w.heap.size]? = some (.cells #[.slice ia s.ids.length ic, .slice ka s.keys.length kc, .slice lna s.lens.length lnc, .slice ta s.ts.length tc, .bool so] 30 (0, 0)) := by rw [hW]; exact heap_alloc_new w _
  have HV := h.below BW
  have HW := hide hW
  clear hW
  have CH := mayHeads_all ia ka lna ta ic kc lnc tc s so W HV hsz
  clear h hsz
  by_cases hHP : HeadsP s so
  case neg =>
    have HNO := hide (show ¬ MayP s so from fun h9 => hHP h9.heads)
    have HHP := hide hHP
    clear hHP
    go_enter Tryz.func27, Tryz.ntmps27
    go_wp2_with fail
    rw [← unhide HW]
    refine CH.mono ?_
    rintro e w1 ⟨r1, rfl, hr1, B1⟩
    have BB := below_trans' BW B1
    obtain rfl : r1 = false := by
      cases r1 with
      | false => rfl
      | true => exact absurd (hr1.1 rfl) (unhide HHP)
    clear hr1 HV CH X0 B1
    go_wp2
    go_ret2
    exact look_no (unhide HNO) BB _
  have hln : s.lens.length ≤ 64 := by have := hHP.n64; have := hHP.nl; omega
  have HHP := hide hHP
  clear hHP
  cases hmay : D.may (s.ts.map (·.t)) with
  | false =>
    have HMAY := hide hmay
    have HNO := hide (show ¬ MayP s so from fun h9 => by have := h9.words; rw [hmay] at this; cases this)
    clear hmay
    go_enter Tryz.func27, Tryz.ntmps27
    go_wp2_with fail
    rw [← unhide HW]
    refine CH.mono ?_
    rintro e w1 ⟨r1, rfl, hr1, B1⟩
    obtain rfl : r1 = true := hr1.2 (unhide HHP)
    have X1 := box_below X0 B1
    have BB := below_trans' BW B1
    have HV1 := HV.below B1
    have x0 := box_cell X1 (j := 0) rfl
    have x1 := box_cell X1 (j := 1) rfl
    have x2 := box_cell X1 (j := 2) rfl
    have x3 := box_cell X1 (j := 3) rfl
    have x4 := box_cell X1 (j := 4) rfl
    clear B1 X0 CH HV hr1
    go_wp2_with fail
    refine (wordsOf9_any ia ka lna ta ic kc lnc tc s so _ HV1 htl).mono ?_
    rintro e w2 ⟨v2, rfl, G2, B2⟩
    have BB2 := below_trans' BB B2
    clear B2 X1 HV1 BB x0 x1 x2 x3 x4
    go_wp2_with (go_at_call 53; refine (may_any _ _ _ G2 _ (unhide HMAY)).mono ?_; rintro e w3 ⟨rfl, rfl⟩)
    go_ret2
    exact look_no (unhide HNO) BB2 _
  | true =>
  have HMAY := hide hmay
  have htn : s.ts.length ≤ 200 := by have := D.may_len hmay; simpa using this
  clear hmay
  go_enter Tryz.func27, Tryz.ntmps27
  go_wp2_with fail
  rw [← unhide HW]
  refine CH.mono ?_
  rintro e w1 ⟨r1, rfl, hr1, B1⟩
  obtain rfl : r1 = true := hr1.2 (unhide HHP)
  have X1 := box_below X0 B1
  have BB := below_trans' BW B1
  have HV1 := HV.below B1
  have x0 := box_cell X1 (j := 0) rfl
  have x1 := box_cell X1 (j := 1) rfl
  have x2 := box_cell X1 (j := 2) rfl
  have x3 := box_cell X1 (j := 3) rfl
  have x4 := box_cell X1 (j := 4) rfl
  clear B1 X0 CH HV hr1
  go_wp2_with fail
  refine (wordsOf9_any ia ka lna ta ic kc lnc tc s so _ HV1 htl).mono ?_
  rintro e w2 ⟨v2, rfl, G2, B2⟩
  have X2 := box_below X1 B2
  have BB2 := below_trans' BB B2
  have HV2 := HV1.below B2
  clear B2 X1 HV1 BB x0 x1 x2 x3 x4
  have x2 := box_cell X2 (j := 2) rfl
  have x3 := box_cell X2 (j := 3) rfl
  go_wp2_with (go_at_call 53; refine (may_any _ _ _ G2 _ (unhide HMAY)).mono ?_; rintro e w3 ⟨rfl, rfl⟩)
  obtain ⟨a', c', hv', -, -, -, hoL⟩ := HV2.2.2.1.open
  simp only [Value.slice.injEq, true_and] at hv'
  obtain ⟨rfl, rfl⟩ := hv'
  go_loop [4, 22] (fun mv iv => ∃ (k : Nat) (m : Int), k ≤ s.lens.length ∧ iv = .int .i64 k ∧ mv = .int .i64 m ∧ Hid (m = (s.lens.take k).sum) ∧ 0 ≤ m ∧ m ≤ (k : Int) * 120) (fun _ iv => s.lens.length - (intOf iv).toNat)
  case atStart => exact ⟨0, 0, Nat.zero_le _, rfl, rfl, rfl, by omega, by omega⟩
  case round =>
    obtain ⟨k, m, hk, rfl, rfl, HM, hm0, hm1⟩ := hrel
    by_cases hlt : k < s.lens.length
    · obtain ⟨b, off, rfl, hb, hc⟩ := hoL (by omega)
      obtain ⟨c, a3⟩ : ∃ c, s.lens[k]? = some c := ⟨s.lens[k], List.getElem?_eq_getElem hlt⟩
      have e1 := hc k hlt
      rw [show s.lens.getD k 0 = c by simp [List.getD, a3]] at e1
      have hcl := (unhide HHP).len a3
      have HST := hide (sum_step a3)
      clear hc a3
      go_wp2
      go_round
      case rel => exact ⟨k + 1, m + c, by omega, by go_num, by go_num, by (show _ = _; rw [unhide HST, unhide HM]), by omega, by omega⟩
      case measure => simp [intOf]; omega
    · have hm : m = s.lens.sum := by rw [unhide HM, List.take_of_length_le (by omega)]
      have HMT := hide hm
      have mk := hmm m
      have HTM := HV2.2.2.2
      have HLN := HV2.2.2.1
      have hZ3 : w.heap.size < w3.heap.size := (Array.getElem?_eq_some_iff.1 X2).1
      have m0 : Map8 (w3.alloc (.map #[] 0)) w3.heap.size 0 (.map []) := World.ownsMap_made _ _ _ _
      have b0 : Below w3.heap.size w3 (w3.alloc (.map #[] 0)) := below_alloc _ _
      clear hm HM hmm
      go_wp2
      go_loopw [35] (fun iv wr => ∃ (j : Nat) (M : DataW Unit) (dj : List S.Spot), j ≤ s.ts.length ∧ iv = .int .i64 j ∧ Hid (dj = S.spots 0 (s.ts.take j)) ∧ Hid ((dj.map (·.1)).Nodup) ∧ dj.length ≤ j * 7680 ∧ Hid (∀ (i : Nat) (t : Tm), i < j → s.ts[i]? = some t → LayOK t.p i s.lens (S.spots 0 (s.ts.take i))) ∧ Map8 wr w3.heap.size dj.length M ∧ Hid (Tel M dj) ∧ Below w3.heap.size w3 wr) (fun iv _ => s.ts.length - (intOf iv).toNat)
      case atStart => exact ⟨0, _, [], Nat.zero_le _, rfl, rfl, by (show List.Nodup _; simp), Nat.zero_le _, hide (fun i t hi => by omega), m0, Tel.start, b0⟩
      case round =>
        clear m0 b0
        obtain ⟨j, M, dj, hj, rfl, HDJ, HDN, hdl, HLO, hown, HT, hbel⟩ := hrel
        have HTR := HTM.below hbel
        have HLR := HLN.below hbel
        have XR := (hbel.block _ hZ3).trans X2
        have hw3r := hbel.size
        by_cases hlt2 : j < s.ts.length
        · obtain ⟨a', c', hv', -, -, -, hoT⟩ := HTR.open
          simp only [Value.slice.injEq, true_and] at hv'
          obtain ⟨rfl, rfl⟩ := hv'
          obtain ⟨b, off, rfl, hb, hc⟩ := hoT (by omega)
          obtain ⟨t, hx⟩ : ∃ t, s.ts[j]? = some t := ⟨s.ts[j], List.getElem?_eq_getElem hlt2⟩
          obtain ⟨pa, pc, c0, c1, P2⟩ := hc j t hx
          have BT := below_alloc wr (.cells #[.string t.t, .slice pa t.p.length pc] 69)
          have CL := lay_all w3.heap.size _ s.lens j _ t.p _ M dj (hown.alloc (.cells #[.string t.t, .slice pa t.p.length pc] 69)) (unhide HT) (HLR.below BT) (P2.below BT) (unhide HDN) (by omega) (by omega)
          have HSN := hide (S.spots_snoc hx)
          have HX := hide hx
          have x2 := box_cell XR (j := 2) rfl
          have hzr : w.heap.size < wr.heap.size := by omega
          have hbel1 := hbel.alloc hbel.size (.cells #[.string t.t, .slice pa t.p.length pc] 69)
          clear hc hx P2 HTR HLR XR HT
          by_cases hLO : LayOK t.p j s.lens dj
          case neg =>
            have HNO := hide (show ¬ MayP s so from fun h9 => by
              have := h9.lay j t (unhide HX)
              rw [← unhide HDJ] at this
              exact hLO this)
            have HLN := hide hLO
            clear hLO
            go_wp2_with (go_at_call 54; refine CL.mono ?_; rintro e w4 ⟨r4, rfl, hr4, -, g4⟩; obtain rfl : r4 = false := (by cases r4 with | false => rfl | true => exact absurd (hr4.1 rfl) (unhide HLN)))
            have B4 := hbel1.grown g4 (by simp; omega) (fun i hi => by cases hi; exact Nat.le_refl _)
            go_ret2
            exact look_no (unhide HNO) (below_trans' BB2 B4) _
          have HLY := hide hLO
          clear hLO
          go_wp2_with (go_at_call 54; refine CL.mono ?_; rintro e w4 ⟨r4, rfl, hr4, hm4, g4⟩; obtain rfl : r4 = true := hr4.2 (unhide HLY))
          have B4 := hbel1.grown g4 (by simp; omega) (fun i hi => by cases hi; exact Nat.le_refl _)
          obtain ⟨M4, O4, T4⟩ := hm4 (by first | rfl | trivial)
          have HT4 := hide T4
          have hsp9 : (t.p.flatMap (S.sp j)).length ≤ 7680 := by
            have h1 := Q.may_spots (i := j) (unhide HLY).2.1 t.p.length
            rw [List.take_length] at h1
            have := Q.may_le (unhide HLY).2.1
            omega
          clear g4 T4 CL hown hbel hbel1 hr4 hm4
          go_roundw
          case rel =>
            refine ⟨j + 1, M4, dj ++ t.p.flatMap (S.sp j), by omega, by go_num, by (show _ = _; rw [unhide HSN, unhide HDJ]), (unhide HLY).2.2.1, by rw [List.length_append]; omega, hide (fun i t' hi ht' => ?_), O4, unhide HT4, B4⟩
            by_cases e : i = j
            · subst e
              rw [unhide HX] at ht'
              cases ht'
              rw [← unhide HDJ]
              exact unhide HLY
            · exact unhide HLO i t' (by omega) ht'
          case measure => simp [intOf]; omega
        · have e : dj = S.spots 0 s.ts := by rw [unhide HDJ, List.take_of_length_le (by omega)]
          have HE := hide e
          have HSZ := hide (show Maps.size M = dj.length from (unhide HT).2.2.2)
          obtain ⟨z, hz⟩ : ∃ z, Maps.size M = z := ⟨_, rfl⟩
          have HZ := hide hz
          clear e HTR HLR XR
          by_cases hq' : ((z : Nat) : Int) = m
          · have hq : (((z : Nat) : Int) == m) = true := by simp [hq']
            have HQ := hide hq'
            have HYES := hide (show MayP s so from ⟨unhide HHP, unhide HMAY, fun i t ht => unhide HLO i t (by have := (List.getElem?_eq_some_iff.1 ht).1; omega) ht, by rw [← unhide HE, ← unhide HSZ, unhide HZ, unhide HQ, unhide HMT]⟩)
            clear hq'
            go_wp2_with (at_len; refine wpList_len_own _ rfl _ 61 rfl 100 3 Tryz.underlying61 _ w3.heap.size dj.length M rfl hown ?_)
            go_ret2
            exact ⟨_, true, rfl, ⟨fun _ => unhide HYES, fun _ => rfl⟩, below_trans' BB2 hbel⟩
          · have hq : (((z : Nat) : Int) == m) = false := by simp [hq']
            have HQ := hide hq'
            have HNO := hide (show ¬ MayP s so from fun h9 => by
              have := h9.all
              rw [← unhide HE, ← unhide HSZ, unhide HZ, ← unhide HMT] at this
              exact unhide HQ this)
            clear hq'
            go_wp2_with (at_len; refine wpList_len_own _ rfl _ 61 rfl 100 3 Tryz.underlying61 _ w3.heap.size dj.length M rfl hown ?_)
            go_ret2
            exact look_no (unhide HNO) (below_trans' BB2 hbel) _

def MayEnd (w : World) (s : Sg) (so : Bool) (e : Ending) (w' : World) : Prop := ∃ r : Bool, e = .returned (.bool r) ∧ (r = true ↔ MayP s so) ∧ Below w.heap.size w w'
set_option maxRecDepth 100000 in
set_option maxHeartbeats 4000000 in
theorem segMay_all (ia ka lna ta : Option Addr) (ic kc lnc tc : Nat) (s : Sg) (so : Bool) (w : World) (h : Sv w (.slice ia s.ids.length ic) (.slice ka s.keys.length kc) (.slice lna s.lens.length lnc) (.slice ta s.ts.length tc) s) (hsz : ∀ x ∈ s.ids, x.size ≤ maxLen) (htl : s.ts.length ≤ 3518437208780) :
    Calls Tryz.prog 12 #[.agg #[.slice ia s.ids.length ic, .slice ka s.keys.length kc, .slice lna s.lens.length lnc, .slice ta s.ts.length tc, .bool so]] w (MayEnd w s so) := by
  obtain ⟨W, hW⟩ : ∃ W, W = w.alloc (.cells #[.slice ia s.ids.length ic, .slice ka s.keys.length kc, .slice lna s.lens.length lnc, .slice ta s.ts.length tc, .bool so] 30) := ⟨_, rfl⟩
  have BW : Below w.heap.size w W := by rw [hW]; exact below_alloc _ _
  have X0 : W.heap[w.heap.size]? = some (.cells #[.slice ia s.ids.length ic, .slice ka s.keys.length kc, .slice lna s.lens.length lnc, .slice ta s.ts.length tc, .bool so] 30 (0, 0)) := by rw [hW]; exact heap_alloc_new w _
  have HV := h.below BW
  have HW := hide hW
  clear hW
  have C := look_all ia ka lna ta ic kc lnc tc s so W HV hsz htl
  clear h HV X0 hsz
  go_enter Tryz.func12, Tryz.ntmps12
  go_wp2_with fail
  rw [← unhide HW]
  refine C.mono ?_
  rintro e w1 ⟨b, r, rfl, hr, B1⟩
  have BB := below_trans' BW B1
  have HR := hide hr
  clear hr B1
  go_wp2
  go_ret
  exact ⟨r, rfl, unhide HR, BB⟩
end Go.Proofs.YtnahjaloodeicaaGreat

/-
  Every segment that may be is the segment of some cards. Plain mathematics; no function of the program is named here.
-/
namespace Go.Proofs.YtnahjaloodeicaaGreat
set_option maxRecDepth 100000

theorem Q.has_iff : ∀ {L : List Pt} {m u y : Int}, Q.mayB m L = true → (Q.hasP L u y = true ↔ ∃ p ∈ L, p.d = u ∧ y ∈ p.a)
  | [], _, _, _, _ => by simp [Q.hasP_nil]
  | p :: r, m, u, y, h => by
    obtain ⟨h1, h2, h3⟩ := Q.may_head h
    have ih := Q.has_iff (u := u) (y := y) h3
    rcases Int.lt_trichotomy p.d u with e | e | e
    · rw [Q.hasP_lt e, ih]
      constructor
      · rintro ⟨q, hq, g⟩
        exact ⟨q, List.mem_cons_of_mem _ hq, g⟩
      · rintro ⟨q, hq, g1, g2⟩
        rcases List.mem_cons.1 hq with rfl | hq
        · omega
        · exact ⟨q, hq, g1, g2⟩
    · subst e
      rw [Q.hasP_eq]
      constructor
      · intro g
        exact ⟨p, List.mem_cons_self .., rfl, by simpa using g⟩
      · rintro ⟨q, hq, g1, g2⟩
        rcases List.mem_cons.1 hq with rfl | hq
        · simpa using g2
        · have := (Q.may_all h3 q hq).1
          omega
    · rw [Q.hasP_gt e]
      constructor
      · intro g
        cases g
      · rintro ⟨q, hq, g1, g2⟩
        rcases List.mem_cons.1 hq with rfl | hq
        · omega
        · have := (Q.may_all h3 q hq).1
          omega

theorem perm_sub {α : Type} [DecidableEq α] {l : List α} : ∀ {p : List α}, l.Nodup → (∀ x ∈ l, x ∈ p) → p.length ≤ l.length → p.Perm l := by
  induction l with
  | nil =>
    intro p _ _ h
    have : p = [] := List.eq_nil_of_length_eq_zero (by simpa using h)
    subst this
    exact List.Perm.refl _
  | cons x l ih =>
    intro p hn hs hl
    obtain ⟨h1, h2⟩ := List.nodup_cons.1 hn
    have hx := hs x (List.mem_cons_self ..)
    have hp := List.perm_cons_erase hx
    refine hp.trans (List.Perm.cons x (ih h2 (fun y hy => ?_) ?_))
    · have hne : y ≠ x := fun e => h1 (by rw [← e]; exact hy)
      exact (List.mem_erase_of_ne hne).2 (hs y (List.mem_cons_of_mem _ hy))
    · rw [List.length_erase_of_mem hx]
      simp only [List.length_cons] at hl
      omega
theorem nodup_inj {α β : Type} {f : α → β} : ∀ {l : List α}, (l.map f).Nodup → ∀ x ∈ l, ∀ y ∈ l, f x = f y → x = y
  | [], _, x, hx, _, _, _ => by cases hx
  | a :: l, h, x, hx, y, hy, e => by
    rw [List.map_cons, List.nodup_cons] at h
    rcases List.mem_cons.1 hx with ex | hx2
    · rcases List.mem_cons.1 hy with ey | hy2
      · rw [ex, ey]
      · exact absurd (List.mem_map.2 ⟨y, hy2, by rw [← e, ex]⟩) h.1
    · rcases List.mem_cons.1 hy with ey | hy2
      · exact absurd (List.mem_map.2 ⟨x, hx2, by rw [e, ey]⟩) h.1
      · exact nodup_inj h.2 x hx2 y hy2 e
theorem pair_of_next {α : Type} {R : α → α → Prop} (tr : ∀ a b c, R a b → R b c → R a c) : ∀ {l : List α}, (∀ (d : Nat) (a b : α), l[d]? = some a → l[d + 1]? = some b → R a b) → l.Pairwise R
  | [], _ => .nil
  | [a], _ => List.pairwise_singleton ..
  | a :: b :: l, h => by
    have ih := pair_of_next tr (l := b :: l) (fun d x y hx hy => h (d + 1) x y (by simpa using hx) (by simpa using hy))
    have hab := h 0 a b rfl rfl
    refine List.pairwise_cons.2 ⟨fun x hx => ?_, ih⟩
    rcases List.mem_cons.1 hx with rfl | hx
    · exact hab
    · exact tr a b x hab ((List.pairwise_cons.1 ih).1 x hx)

/-! ### Each place has one word -/

/-- Cards of as many words, for counting. -/
def S.dm (lens : List Int) : List Cd := lens.map fun n => ⟨⟨#[]⟩, 0, List.replicate n.toNat ⟨#[]⟩⟩
theorem S.dm_total : ∀ (lens : List Int), (∀ n ∈ lens, 0 ≤ n) → ((S.total (S.dm lens) : Nat) : Int) = lens.sum
  | [], _ => rfl
  | n :: l, h => by
    have ih := S.dm_total l fun m hm => h m (List.mem_cons_of_mem _ hm)
    have hn := h n (List.mem_cons_self ..)
    simp only [S.dm, S.total, List.map_cons, List.sum_cons, List.length_replicate] at ih ⊢
    omega

theorem MayP.place {s : Sg} {so : Bool} (h : MayP s so) {x : S.Spot} (hx : x ∈ S.spots 0 s.ts) : ∃ (d k : Nat) (z : Int) (t : Tm) (p : Pt), x.1 = ((d : Int), (k : Int)) ∧ s.lens[d]? = some z ∧ (k : Int) < z ∧ s.ts[x.2]? = some t ∧ p ∈ t.p ∧ p.d = d ∧ (k : Int) ∈ p.a := by
  obtain ⟨n, t, p, h1, h2, h3, h4, h5⟩ := S.mem_spots.1 hx
  obtain ⟨-, l2, -, l4⟩ := h.lay n t h1
  obtain ⟨d, e1, z, e2, e3⟩ := l4 p h2 _ h4
  have h0 := (Q.rise_le (Q.places_rise (Q.may_all l2 p h2).2) _ h4).1
  obtain ⟨k, hk⟩ := Int.eq_ofNat_of_zero_le h0
  rw [hk] at e3 h4
  refine ⟨d, k, z, t, p, ?_, e2, e3, by rw [h5, Nat.zero_add]; exact h1, h2, e1, h4⟩
  rw [← hk, ← e1, ← h3]

theorem MayP.nodup {s : Sg} {so : Bool} (h : MayP s so) : ((S.spots 0 s.ts).map (·.1)).Nodup := by
  by_cases h0 : s.ts.length = 0
  · rw [List.eq_nil_of_length_eq_zero h0]
    simp [S.spots]
  · have ht : s.ts[s.ts.length - 1]? = some s.ts[s.ts.length - 1] := List.getElem?_eq_getElem (by omega)
    have h1 := (h.lay _ _ ht).2.2.1
    rw [← S.spots_snoc ht, List.take_of_length_le (by omega)] at h1
    exact h1

theorem MayP.full {s : Sg} {so : Bool} (h : MayP s so) {d k : Nat} {z : Int} (hz : s.lens[d]? = some z) (hk : (k : Int) < z) : ∃ i, (((d : Int), (k : Int)), i) ∈ S.spots 0 s.ts := by
  have hl : ∀ n ∈ s.lens, 0 ≤ n := fun n hn => by
    obtain ⟨j, hj, e⟩ := List.mem_iff_getElem.1 hn
    exact (h.heads.len (List.getElem?_eq_some_iff.2 ⟨hj, e⟩)).1
  have ht := S.dm_total s.lens hl
  have hp : (S.pairs 0 (S.dm s.lens)).Perm ((S.spots 0 s.ts).map (·.1)) := by
    refine perm_sub h.nodup (fun x hx => ?_) ?_
    · obtain ⟨y, hy, rfl⟩ := List.mem_map.1 hx
      obtain ⟨d, k, z, t, p, e1, e2, e3, -⟩ := h.place hy
      refine S.mem_pairs.2 ⟨d, k, ⟨⟨#[]⟩, 0, List.replicate z.toNat ⟨#[]⟩⟩, by rw [e1]; simp, by simp [S.dm, e2], ?_⟩
      simp only [List.length_replicate]
      omega
    · rw [S.pairs_len, List.length_map]
      have := h.all
      omega
  have hm : ((d : Int), (k : Int)) ∈ S.pairs 0 (S.dm s.lens) := by
    refine S.mem_pairs.2 ⟨d, k, ⟨⟨#[]⟩, 0, List.replicate z.toNat ⟨#[]⟩⟩, by simp, by simp [S.dm, hz], ?_⟩
    simp only [List.length_replicate]
    omega
  obtain ⟨y, hy, e⟩ := List.mem_map.1 (hp.subset hm)
  refine ⟨y.2, ?_⟩
  rw [← e]
  exact hy

/-- The word that stands at place k of document d. -/
def S.wat (s : Sg) (d k : Nat) : ByteArray :=
  match (S.spots 0 s.ts).find? (fun x => decide (x.1 = ((d : Int), (k : Int)))) with
  | some x => ((s.ts[x.2]?).map (·.t)).getD ⟨#[]⟩
  | none => ⟨#[]⟩
theorem MayP.wat {s : Sg} {so : Bool} (h : MayP s so) {d k i : Nat} {t : Tm} (hx : (((d : Int), (k : Int)), i) ∈ S.spots 0 s.ts) (ht : s.ts[i]? = some t) : S.wat s d k = t.t := by
  unfold S.wat
  cases hf : (S.spots 0 s.ts).find? (fun x => decide (x.1 = ((d : Int), (k : Int)))) with
  | none =>
    have := List.find?_eq_none.1 hf _ hx
    simp at this
  | some y =>
    have h1 := List.find?_some hf
    have h2 := List.mem_of_find?_eq_some hf
    have e := nodup_inj h.nodup y h2 _ hx (by simpa using h1)
    rw [e]
    simp [ht]

/-- The cards of a segment that may be. -/
def S.crd (s : Sg) : List Cd := (List.range s.ids.length).map fun d => ⟨s.ids.getD d ⟨#[]⟩, s.keys.getD d 0, (List.range (s.lens.getD d 0).toNat).map fun k => S.wat s d k⟩
theorem S.crd_at {s : Sg} {d : Nat} {c : Cd} (h : (S.crd s)[d]? = some c) : d < s.ids.length ∧ c = ⟨s.ids.getD d ⟨#[]⟩, s.keys.getD d 0, (List.range (s.lens.getD d 0).toNat).map fun k => S.wat s d k⟩ := by
  unfold S.crd at h
  rw [List.getElem?_map] at h
  obtain ⟨i, hi, rfl⟩ := Option.map_eq_some_iff.1 h
  obtain ⟨h1, h2⟩ := List.getElem?_eq_some_iff.1 hi
  simp at h1 h2
  subst h2
  exact ⟨h1, rfl⟩
theorem S.crd_get {s : Sg} {d : Nat} (h : d < s.ids.length) : (S.crd s)[d]? = some ⟨s.ids.getD d ⟨#[]⟩, s.keys.getD d 0, (List.range (s.lens.getD d 0).toNat).map fun k => S.wat s d k⟩ := by
  unfold S.crd
  rw [List.getElem?_map]
  simp [h]
theorem S.crd_len (s : Sg) : (S.crd s).length = s.ids.length := by simp [S.crd]

section
variable {s : Sg} {so : Bool}
/-- What stands in the cards, and where. -/
theorem MayP.stands (h : MayP s so) {d k : Nat} {c : Cd} {x : ByteArray} (hc : (S.crd s)[d]? = some c) : c.w[k]? = some x ↔ ∃ (i : Nat) (t : Tm), (((d : Int), (k : Int)), i) ∈ S.spots 0 s.ts ∧ s.ts[i]? = some t ∧ t.t = x := by
  obtain ⟨hd, rfl⟩ := S.crd_at hc
  have hdl : d < s.lens.length := by have := h.heads.nl; omega
  have hz := List.getElem?_eq_getElem hdl
  have hg : s.lens.getD d 0 = s.lens[d] := by simp [List.getD, hdl]
  constructor
  · intro hx
    simp only [List.getElem?_map] at hx
    obtain ⟨k', hk', rfl⟩ := Option.map_eq_some_iff.1 hx
    obtain ⟨g1, g2⟩ := List.getElem?_eq_some_iff.1 hk'
    simp only [List.length_range, List.getElem_range] at g1 g2
    subst g2
    rw [hg] at g1
    obtain ⟨i, hi⟩ := h.full hz (k := k) (by omega)
    obtain ⟨_, _, _, t, _, -, -, -, ht, -⟩ := h.place hi
    exact ⟨i, t, hi, ht, (h.wat hi ht).symm⟩
  · rintro ⟨i, t, hi, ht, rfl⟩
    obtain ⟨d', k', z, _, _, e1, e2, e3, -⟩ := h.place hi
    simp only [Prod.mk.injEq] at e1
    obtain rfl : d = d' := by omega
    obtain rfl : k = k' := by omega
    rw [hz] at e2
    cases e2
    have hk : k < (s.lens.getD d 0).toNat := by rw [hg]; omega
    simp only [List.getElem?_map]
    rw [List.getElem?_range hk]
    simp [h.wat hi ht]

theorem MayP.doc (h : MayP s so) {d : Nat} {z : Int} (hz : s.lens[d]? = some z) : ∃ c, (S.crd s)[d]? = some c :=
  ⟨_, S.crd_get (by have := (List.getElem?_eq_some_iff.1 hz).1; have := h.heads.nl; omega)⟩

theorem MayP.mem_words (h : MayP s so) (x : ByteArray) : x ∈ S.words (S.crd s) ↔ x ∈ s.ts.map (·.t) := by
  rw [S.mem_words]
  constructor
  · rintro ⟨c, hc, hx⟩
    obtain ⟨d, hd⟩ := List.mem_iff_getElem?.1 hc
    obtain ⟨k, hk⟩ := List.mem_iff_getElem?.1 hx
    obtain ⟨i, t, -, ht, rfl⟩ := (h.stands hd).1 hk
    exact List.mem_map.2 ⟨t, List.mem_of_getElem? ht, rfl⟩
  · intro hx
    obtain ⟨t, ht, rfl⟩ := List.mem_map.1 hx
    obtain ⟨i, hi⟩ := List.mem_iff_getElem?.1 ht
    obtain ⟨l1, l2, -, -⟩ := h.lay i t hi
    have hp := List.getElem_mem l1
    have ha := (Q.places_le (Q.may_all l2 _ hp).2).1
    have hk := List.getElem_mem (l := (t.p[0]).a) (n := 0) ha
    have hs : ((t.p[0].d, t.p[0].a[0]), i) ∈ S.spots 0 s.ts := S.mem_spots.2 ⟨i, t, t.p[0], hi, hp, rfl, hk, by simp⟩
    obtain ⟨d, k, z, t', p', e1, e2, e3, -⟩ := h.place hs
    obtain ⟨c, hc⟩ := h.doc e2
    simp only at e1
    rw [e1] at hs
    exact ⟨c, List.mem_of_getElem? hc, List.mem_of_getElem? ((h.stands hc).2 ⟨i, t, hs, hi, rfl⟩)⟩
theorem MayP.words_eq (h : MayP s so) : S.words (S.crd s) = s.ts.map (·.t) := D.rise_ext (S.words_rise _) (D.may_rise h.words) h.mem_words

theorem MayP.crd_w (h : MayP s so) {d : Nat} {c : Cd} (hc : (S.crd s)[d]? = some c) : ∃ z, s.lens[d]? = some z ∧ (c.w.length : Int) = z ∧ z ≤ 120 := by
  obtain ⟨hd, rfl⟩ := S.crd_at hc
  have hdl : d < s.lens.length := by have := h.heads.nl; omega
  have hg : s.lens.getD d 0 = s.lens[d] := by simp [List.getD, hdl]
  have hb := h.heads.len (List.getElem?_eq_getElem hdl)
  refine ⟨_, List.getElem?_eq_getElem hdl, ?_, hb.2⟩
  simp only [List.length_map, List.length_range, hg]
  omega

theorem MayP.term_eq (h : MayP s so) {i : Nat} {t : Tm} (hi : s.ts[i]? = some t) : S.term (S.crd s) t.t = t := by
  have hw : ∀ c ∈ S.crd s, c.w.length ≤ 120 := fun c hc => by
    obtain ⟨d, hd⟩ := List.mem_iff_getElem?.1 hc
    obtain ⟨z, -, h1, h2⟩ := h.crd_w hd
    omega
  have hl : (S.crd s).length ≤ 64 := by rw [S.crd_len]; exact h.heads.n64
  have m1 := S.posts_may hl hw t.t
  have m2 := (h.lay i t hi).2.1
  have e : (S.posts (S.crd s) t.t).map S.pt = t.p := by
    refine Q.may_ext m1 m2 fun u y => ?_
    rw [Q.has_iff m1, Q.has_iff m2]
    constructor
    · rintro ⟨q, hq, rfl, hy⟩
      obtain ⟨q', hq', rfl⟩ := List.mem_map.1 hq
      obtain ⟨d, c, hc, rfl, -⟩ := S.mem_posts.1 hq'
      obtain ⟨k, hk, hw⟩ := S.mem_places.1 hy
      have hk' : y = (k : Int) := hk
      subst hk'
      obtain ⟨i', t', hs, ht', e'⟩ := (h.stands hc).1 hw
      have hr := D.may_rise h.words
      have a1 : (s.ts.map (·.t))[i]? = some t.t := by rw [List.getElem?_map, hi]; rfl
      have a2 : (s.ts.map (·.t))[i']? = some t.t := by rw [List.getElem?_map, ht', ← e']; rfl
      have b1 := D.bel_self hr a1
      have b2 := D.bel_self hr a2
      have b3 : i' = i := by omega
      subst b3
      rw [hi] at ht'
      cases ht'
      obtain ⟨d2, k2, z2, t2, p2, f1, f2, f3, f4, f5, f6, f7⟩ := h.place hs
      simp only [Prod.mk.injEq] at f1
      simp only at f4
      rw [hi] at f4
      cases f4
      exact ⟨p2, f5, by rw [f6, ← f1.1]; rfl, by rw [f1.2]; exact f7⟩
    · rintro ⟨p, hp, rfl, hy⟩
      have hs : ((p.d, y), i) ∈ S.spots 0 s.ts := S.mem_spots.2 ⟨i, t, p, hi, hp, rfl, hy, by simp⟩
      obtain ⟨d, k, z, t2, p2, f1, f2, f3, -⟩ := h.place hs
      obtain ⟨c, hc⟩ := h.doc f2
      simp only at f1
      rw [f1] at hs
      have hw := (h.stands hc).2 ⟨i, t, hs, hi, rfl⟩
      simp only [Prod.mk.injEq] at f1
      have hm : (k : Int) ∈ S.places c.w t.t := S.mem_places.2 ⟨k, rfl, hw⟩
      exact ⟨S.pt ((d : Int), S.places c.w t.t), List.mem_map.2 ⟨_, S.mem_posts.2 ⟨d, c, hc, rfl, fun e => by rw [e] at hm; cases hm⟩, rfl⟩, f1.1.symm, by rw [f1.2]; exact hm⟩
  unfold S.term
  rw [e]

theorem MayP.ids_eq (_h : MayP s so) : (S.crd s).map (·.id) = s.ids := by
  apply List.ext_getElem?
  intro d
  rw [List.getElem?_map]
  by_cases hd : d < s.ids.length
  · rw [S.crd_get hd]
    simp [List.getD, hd]
  · rw [List.getElem?_eq_none (by rw [S.crd_len]; omega), List.getElem?_eq_none (by omega)]
    rfl
theorem MayP.keys_eq (h : MayP s so) : (S.crd s).map (·.key) = s.keys := by
  have hk := h.heads.nk
  apply List.ext_getElem?
  intro d
  rw [List.getElem?_map]
  by_cases hd : d < s.ids.length
  · rw [S.crd_get hd]
    simp [List.getD, show d < s.keys.length by omega]
  · rw [List.getElem?_eq_none (by rw [S.crd_len]; omega), List.getElem?_eq_none (by omega)]
    rfl
theorem MayP.lens_eq (h : MayP s so) : (S.crd s).map (fun c => (c.w.length : Int)) = s.lens := by
  have hk := h.heads.nl
  apply List.ext_getElem?
  intro d
  rw [List.getElem?_map]
  by_cases hd : d < s.ids.length
  · obtain ⟨z, h1, h2, -⟩ := h.crd_w (S.crd_get hd)
    rw [S.crd_get hd, h1, Option.map_some, h2]
  · rw [List.getElem?_eq_none (by rw [S.crd_len]; omega), List.getElem?_eq_none (by omega)]
    rfl
theorem MayP.seg_eq (h : MayP s so) : S.seg (S.crd s) = s := by
  have ht : (S.words (S.crd s)).map (S.term (S.crd s)) = s.ts := by
    rw [h.words_eq, List.map_map]
    apply List.ext_getElem?
    intro i
    rw [List.getElem?_map]
    cases hi : s.ts[i]? with
    | none => rfl
    | some t => simp [h.term_eq hi]
  unfold S.seg
  rw [h.ids_eq, h.keys_eq, h.lens_eq, ht]

theorem MayP.ok (h : MayP s so) : S.Ok (S.crd s) so where
  fit := fun c hc => by
    obtain ⟨d, hd⟩ := List.mem_iff_getElem?.1 hc
    obtain ⟨z, h1, h2, -⟩ := h.crd_w hd
    have hh : S.head c.id c.key (c.w.length : Int) = true := by
      refine h.heads.head d c.id c.key _ ?_ ?_ (by rw [h2]; exact h1)
      · rw [← h.ids_eq, List.getElem?_map, hd]; rfl
      · rw [← h.keys_eq, List.getElem?_map, hd]; rfl
    rw [S.fits_head, hh, Bool.true_and]
    have hn : c.w.any S.badw = false := by
      rw [List.any_eq_false]
      intro x hx
      have hxw : x ∈ s.ts.map (·.t) := by rw [← h.words_eq]; exact S.mem_words.2 ⟨c, hc, hx⟩
      have := D.may_size h.words x hxw
      simp only [S.badw, Bool.or_eq_true, decide_eq_true_eq]
      omega
    rw [hn]
    rfl
  unl := by
    have := h.heads.unl
    rw [← h.ids_eq, List.nodup_iff_pairwise_ne, List.pairwise_map] at this
    exact this
  len := by rw [S.crd_len]; exact h.heads.n64
  few := by
    rw [h.words_eq]
    exact D.may_len h.words
  up := fun hso => by
    refine pair_of_next (R := fun a b => S.before a b = true) (fun a b c => S.before_trans) fun d a b ha hb => ?_
    have key : ∀ {e : Nat} {c : Cd}, (S.crd s)[e]? = some c → s.ids[e]? = some c.id ∧ s.keys[e]? = some c.key := fun hc => ⟨by rw [← h.ids_eq, List.getElem?_map, hc]; rfl, by rw [← h.keys_eq, List.getElem?_map, hc]; rfl⟩
    exact h.heads.up hso d a.id b.id a.key b.key (key ha).1 (key ha).2 (key hb).1 (key hb).2
/-- A segment that may be is the segment of its cards. -/
theorem may_valid (h : MayP s so) : Valid s (S.crd s) so := ⟨h.seg_eq.symm, h.ok⟩
end
end Go.Proofs.YtnahjaloodeicaaGreat

/-
  Segments merged: what is left of whoever lives, the segment that it makes, the tables. Plain mathematics; no function of the program is named here.
-/
namespace Go.Proofs.YtnahjaloodeicaaGreat
set_option maxRecDepth 100000

/-! ### The cards of the segment of cards are those -/

theorem valid_may11 {s : Sg} {l : List Cd} {so : Bool} (h : Valid s l so) : MayP s so := by
  obtain ⟨n1, n2, n3, -⟩ := h.lens
  have at' : ∀ (d : Nat) (x : ByteArray) (k n : Int), s.ids[d]? = some x → s.keys[d]? = some k → s.lens[d]? = some n → ∃ c, l[d]? = some c ∧ x = c.id ∧ k = c.key ∧ n = (c.w.length : Int) := fun d x k n h1 h2 h3 => by
    have hd := (List.getElem?_eq_some_iff.1 h1).1
    have hc : l[d]? = some (l[d]'(by omega)) := List.getElem?_eq_getElem _
    obtain ⟨g1, g2, g3⟩ := h.at hc
    rw [g1] at h1
    rw [g2] at h2
    rw [g3] at h3
    cases h1; cases h2; cases h3
    exact ⟨_, hc, rfl, rfl, rfl⟩
  refine ⟨⟨by have := h.2.len; omega, by omega, by omega, ?_, ?_, ?_⟩, ?_, ?_, ?_⟩
  · rw [h.1]
    have := h.2.unl
    unfold S.Unlike at this
    show (l.map (·.id)).Nodup
    rw [List.nodup_iff_pairwise_ne, List.pairwise_map]
    exact this
  · intro d x k n h1 h2 h3
    obtain ⟨c, hc, rfl, rfl, rfl⟩ := at' d x k n h1 h2 h3
    exact fits_head8 (h.2.fit c (List.mem_of_getElem? hc))
  · intro hso d x y k m h1 h2 h3 h4
    have hd := (List.getElem?_eq_some_iff.1 h1).1
    have hd2 := (List.getElem?_eq_some_iff.1 h3).1
    obtain ⟨c, hc, rfl, rfl, -⟩ := at' d x k _ h1 h2 (List.getElem?_eq_getElem (by omega))
    obtain ⟨c2, hc2, rfl, rfl, -⟩ := at' (d + 1) y m _ h3 h4 (List.getElem?_eq_getElem (by omega))
    have hup := h.2.up hso
    obtain ⟨i1, r1⟩ := List.getElem?_eq_some_iff.1 hc
    obtain ⟨i2, r2⟩ := List.getElem?_eq_some_iff.1 hc2
    have := List.pairwise_iff_getElem.1 hup d (d + 1) i1 i2 (by omega)
    rw [r1, r2] at this
    exact this
  · rw [h.words]
    exact h.2.may
  · intro j t ht
    obtain ⟨l1, l2, l3, l4, -⟩ := h.lay ht
    exact ⟨l1, l2, l3, fun p hp k hk => by
      obtain ⟨d, e1, -, -, -, z, e2, e3⟩ := l4 p hp k hk
      exact ⟨d, e1, z, e2, e3⟩⟩
  · rw [h.spots, S.laid_len, h.1]
    exact (sum_total l).symm

theorem crd_seg {l : List Cd} {so : Bool} (h : S.Ok l so) : S.crd (S.seg l) = l := by
  have hm : MayP (S.seg l) so := valid_may11 ⟨rfl, h⟩
  have hlen : (S.crd (S.seg l)).length = l.length := by rw [S.crd_len]; simp [S.seg]
  refine List.ext_getElem hlen fun d h1 h2 => ?_
  have hc := List.getElem?_eq_getElem h1
  have hd := List.getElem?_eq_getElem h2
  have e1 := hm.ids_eq
  have e2 := hm.keys_eq
  have e3 := hm.lens_eq
  refine Cd.eq ?_ ?_ ?_
  · have : ((S.crd (S.seg l)).map (·.id))[d]? = (l.map (·.id))[d]? := by rw [e1]; rfl
    rw [List.getElem?_map, List.getElem?_map, hc, hd] at this
    exact Option.some.inj this
  · have : ((S.crd (S.seg l)).map (·.key))[d]? = (l.map (·.key))[d]? := by rw [e2]; rfl
    rw [List.getElem?_map, List.getElem?_map, hc, hd] at this
    exact Option.some.inj this
  · have : ((S.crd (S.seg l)).map (fun c => (c.w.length : Int)))[d]? = (l.map (fun c => (c.w.length : Int)))[d]? := by rw [e3]; rfl
    rw [List.getElem?_map, List.getElem?_map, hc, hd] at this
    have hw : (S.crd (S.seg l))[d].w.length = l[d].w.length := by
      have h9 : ((S.crd (S.seg l))[d].w.length : Int) = (l[d].w.length : Int) := Option.some.inj this
      omega
    refine List.ext_getElem hw fun k k1 k2 => ?_
    have hk := List.getElem?_eq_getElem k1
    obtain ⟨i, t, hs, ht, e⟩ := (hm.stands hc).1 hk
    obtain ⟨d', k', c', x, g1, g2, g3, g4⟩ := S.mem_laid.1 (show _ ∈ S.laid l from hs)
    simp only [Prod.mk.injEq] at g1
    obtain rfl : d = d' := by omega
    obtain rfl : k = k' := by omega
    rw [hd] at g2
    cases g2
    have ht' : ((S.words l).map (S.term l))[i]? = some t := ht
    rw [List.getElem?_map, g4] at ht'
    have e9 := Option.some.inj ht'
    have e8 : t.t = x := by rw [← e9]; rfl
    rw [List.getElem?_eq_getElem k2] at g3
    rw [← e, e8]
    exact (Option.some.inj g3).symm

namespace G

/-! ### What is left -/

abbrev Sq := Sg × Bool
def alive {α : Type} : List α → List Bool → List α
  | a :: l, b :: r => if b = true then a :: alive l r else alive l r
  | _, _ => []
def left : List Sq → List (List Bool) → List Cd
  | s :: l, a :: r => alive (S.crd s.1) a ++ left l r
  | _, _ => []
def Right (l : List Sq) (ls : List (List Bool)) : Prop := l.length = ls.length ∧ ∀ (i : Nat) (s : Sq) (a : List Bool), l[i]? = some s → ls[i]? = some a → MayP s.1 s.2 ∧ a.length = s.1.ids.length
def ord (so : Bool) (L : List Cd) : List Cd := if so = true then S.srt L else L
def out (so : Bool) (L : List Cd) : Sg := S.seg (ord so L)
/-- A segment comes of it. -/
structure Good (l : List Sq) (ls : List (List Bool)) : Prop where
  right : Right l ls
  unl : S.Unlike (left l ls)
  len : (left l ls).length ≤ 64
  few : (S.words (left l ls)).length ≤ 200

theorem alive_sub {α : Type} : ∀ (l : List α) (r : List Bool), (alive l r).Sublist l
  | [], _ => by simp [alive]
  | _ :: _, [] => by simp [alive]
  | a :: l, b :: r => by
    simp only [alive]
    split
    · exact (alive_sub l r).cons_cons a
    · exact (alive_sub l r).cons a
theorem alive_all {α : Type} : ∀ (l : List α), alive l (List.replicate l.length true) = l
  | [] => rfl
  | a :: l => by simp [alive, List.replicate_succ, alive_all l]
theorem Right.tail {s : Sq} {l : List Sq} {a : List Bool} {ls : List (List Bool)} (h : Right (s :: l) (a :: ls)) : (MayP s.1 s.2 ∧ a.length = s.1.ids.length) ∧ Right l ls :=
  ⟨h.2 0 s a rfl rfl, by simpa using h.1, fun i s' a' h1 h2 => h.2 (i + 1) s' a' (by simpa using h1) (by simpa using h2)⟩
theorem Right.cons {s : Sq} {l : List Sq} {a : List Bool} {ls : List (List Bool)} (h1 : MayP s.1 s.2) (h2 : a.length = s.1.ids.length) (h : Right l ls) : Right (s :: l) (a :: ls) :=
  ⟨by simp [h.1], fun i s' a' g1 g2 => by
    cases i with
    | zero => simp at g1 g2; subst g1 g2; exact ⟨h1, h2⟩
    | succ i => exact h.2 i s' a' (by simpa using g1) (by simpa using g2)⟩
theorem right_nil : Right [] [] := ⟨rfl, fun i s a h => by simp at h⟩
theorem Right.fit : ∀ {l : List Sq} {ls : List (List Bool)}, Right l ls → ∀ c ∈ left l ls, S.fits c = true
  | [], _, _, c, hc => by simp [left] at hc
  | _ :: _, [], h, c, hc => by simp [left] at hc
  | s :: l, a :: ls, h, c, hc => by
    obtain ⟨⟨h1, h2⟩, h3⟩ := h.tail
    rcases List.mem_append.1 hc with hc | hc
    · exact h1.ok.fit c ((alive_sub _ _).subset hc)
    · exact Right.fit h3 c hc
theorem ord_perm (so : Bool) (L : List Cd) : (ord so L).Perm L := by
  unfold ord
  split
  · exact S.srt_perm L
  · exact List.Perm.refl _
theorem ok_of {L : List Cd} (so : Bool) (hf : ∀ c ∈ L, S.fits c = true) (hu : S.Unlike L) (hl : L.length ≤ 64) (hw : (S.words L).length ≤ 200) : S.Ok (ord so L) so where
  fit := fun c hc => hf c ((ord_perm so L).subset hc)
  unl := hu.perm (ord_perm so L).symm
  len := by rw [(ord_perm so L).length_eq]; exact hl
  few := by rw [S.words_perm (ord_perm so L)]; exact hw
  up := fun h => by
    unfold ord
    rw [if_pos h]
    exact S.srt_up hu
theorem Good.ok {l : List Sq} {ls : List (List Bool)} (h : Good l ls) (so : Bool) : S.Ok (ord so (left l ls)) so := ok_of so h.right.fit h.unl h.len h.few
theorem Good.valid {l : List Sq} {ls : List (List Bool)} (h : Good l ls) (so : Bool) : Valid (out so (left l ls)) (ord so (left l ls)) so := ⟨rfl, h.ok so⟩

/-! ### Some first -/

theorem left_split : ∀ {l : List Sq} {ls : List (List Bool)} (n : Nat), l.length = ls.length → left l ls = left (l.take n) (ls.take n) ++ left (l.drop n) (ls.drop n)
  | [], ls, n, h => by simp [left]
  | s :: l, [], n, h => by simp at h
  | s :: l, a :: ls, 0, h => by simp [left]
  | s :: l, a :: ls, n + 1, h => by
    have ih := left_split (l := l) (ls := ls) n (by simpa using h)
    simp only [left, List.take_succ_cons, List.drop_succ_cons, ih, List.append_assoc]
theorem Right.take {l : List Sq} {ls : List (List Bool)} (h : Right l ls) (n : Nat) : Right (l.take n) (ls.take n) :=
  ⟨by simp [h.1], fun i s a h1 h2 => by
    rw [List.getElem?_take] at h1 h2
    split at h1
    · rename_i hi
      rw [if_pos hi] at h2
      exact h.2 i s a h1 h2
    · cases h1⟩
theorem Right.drop {l : List Sq} {ls : List (List Bool)} (h : Right l ls) (n : Nat) : Right (l.drop n) (ls.drop n) :=
  ⟨by simp [h.1], fun i s a h1 h2 => by
    rw [List.getElem?_drop] at h1 h2
    exact h.2 _ s a h1 h2⟩
theorem words_sub {L M : List Cd} (h : ∀ c ∈ L, c ∈ M) : (S.words L).length ≤ (S.words M).length := by
  have h1 := S.words_rise L
  have hn : (S.words L).Pairwise fun a b => a ≠ b := h1.imp fun hab e => by rw [e, K.lt_irrefl] at hab; cases hab
  have key : ∀ (z y : List ByteArray), (z.Pairwise fun a b => a ≠ b) → (∀ x ∈ z, x ∈ y) → z.length ≤ y.length := by
    intro z
    induction z with
    | nil => intro y _ _; simp
    | cons x z ih =>
      intro y hp hs
      obtain ⟨p1, p2⟩ := List.pairwise_cons.1 hp
      obtain ⟨u, v, rfl⟩ := List.append_of_mem (hs x (List.mem_cons_self ..))
      have := ih (u ++ v) p2 fun c hc => by
        have := hs c (List.mem_cons_of_mem _ hc)
        rcases List.mem_append.1 this with g | g
        · exact List.mem_append_left _ g
        · rcases List.mem_cons.1 g with rfl | g
          · exact absurd rfl (p1 c hc)
          · exact List.mem_append_right _ g
      simp only [List.length_append, List.length_cons] at this ⊢
      omega
  refine key _ _ hn fun x hx => ?_
  obtain ⟨c, hc, hxc⟩ := S.mem_words.1 hx
  exact S.mem_words.2 ⟨c, h c hc, hxc⟩
theorem Good.take {l : List Sq} {ls : List (List Bool)} (h : Good l ls) (n : Nat) : Good (l.take n) (ls.take n) := by
  have e := left_split n h.right.1
  have hs : (left (l.take n) (ls.take n)).Sublist (left l ls) := by rw [e]; exact List.sublist_append_left _ _
  exact ⟨h.right.take n, h.unl.sublist hs, Nat.le_trans hs.length_le h.len, Nat.le_trans (words_sub fun c hc => hs.subset hc) h.few⟩

theorem srt_ext {L M : List Cd} (hu : S.Unlike L) (p : L.Perm M) : S.srt L = S.srt M :=
  (S.srt_is hu (S.srt_up (hu.perm p)) ((S.srt_perm M).trans p.symm))
theorem ord_ext {L M : List Cd} {so : Bool} (hu : S.Unlike L) (p : L.Perm M) (h : so = false → L = M) : ord so L = ord so M := by
  unfold ord
  cases so with
  | true => exact srt_ext hu p
  | false => exact h rfl
/-- Some merged, and then with the others. -/
theorem Good.twice {l : List Sq} {ls : List (List Bool)} (h : Good l ls) (so : Bool) (n : Nat) :
    Good ((out so (left (l.take n) (ls.take n)), so) :: l.drop n) (List.replicate (out so (left (l.take n) (ls.take n))).ids.length true :: ls.drop n) ∧
    out so (left ((out so (left (l.take n) (ls.take n)), so) :: l.drop n) (List.replicate (out so (left (l.take n) (ls.take n))).ids.length true :: ls.drop n)) = out so (left l ls) := by
  have h1 := h.take n
  have ho := h1.ok so
  have e := left_split n h.right.1
  obtain ⟨A, hA⟩ : ∃ A, left (l.take n) (ls.take n) = A := ⟨_, rfl⟩
  obtain ⟨B, hB⟩ : ∃ B, left (l.drop n) (ls.drop n) = B := ⟨_, rfl⟩
  rw [hA] at ho e ⊢
  rw [hB] at e
  have hc : S.crd (out so A) = ord so A := crd_seg ho
  have hl : left ((out so A, so) :: l.drop n) (List.replicate (out so A).ids.length true :: ls.drop n) = ord so A ++ B := by
    simp only [left, hB]
    rw [← S.crd_len, alive_all, hc]
  have hp : (ord so A ++ B).Perm (left l ls) := by rw [e]; exact (ord_perm so A).append_right B
  refine ⟨⟨Right.cons (valid_may11 ⟨rfl, ho⟩) (by simp) (h.right.drop n), ?_, ?_, ?_⟩, ?_⟩
  · rw [hl]; exact h.unl.perm hp.symm
  · rw [hl, hp.length_eq]; exact h.len
  · rw [hl, S.words_perm hp]; exact h.few
  · unfold out
    have hl' := hl
    unfold out at hl'
    rw [hl']
    rw [ord_ext (h.unl.perm hp.symm) hp fun hs => by
      rw [e]
      subst hs
      rfl]

/-! ### One that is all alive -/

theorem one_left {s : Sg} {so : Bool} : left [(s, so)] [List.replicate s.ids.length true] = S.crd s := by
  simp only [left, List.append_nil]
  rw [← S.crd_len, alive_all]
theorem ord_up {L : List Cd} {so : Bool} (h : S.Ok L so) : ord so L = L := by
  unfold ord
  split
  · rename_i hs
    exact S.srt_is h.unl (h.up hs) (List.Perm.refl _)
  · rfl
theorem one_good {s : Sg} {so : Bool} (h : MayP s so) : Good [(s, so)] [List.replicate s.ids.length true] where
  right := Right.cons h (by simp) right_nil
  unl := by rw [one_left]; exact h.ok.unl
  len := by rw [one_left]; exact h.ok.len
  few := by rw [one_left]; exact h.ok.few
theorem one_out {s : Sg} {so : Bool} (h : MayP s so) : out so (left [(s, so)] [List.replicate s.ids.length true]) = s := by
  rw [one_left, out, ord_up h.ok, h.seg_eq]
theorem none_good : Good [] [] := ⟨right_nil, by simp [left, S.Unlike], by simp [left], by simp [left, S.words, D.un]⟩
theorem none_out (so : Bool) : out so (left [] []) = ⟨[], [], [], []⟩ := by
  have : ord so [] = [] := by unfold ord; split <;> rfl
  simp [out, left, this, S.seg, S.words, D.un]

/-! ### Two, whichever comes first -/

theorem turned_right {s t : Sq} {x y : List Bool} (h : Right [s, t] [x, y]) : Right [t, s] [y, x] := by
  obtain ⟨⟨h1, h2⟩, h3⟩ := h.tail
  obtain ⟨⟨h4, h5⟩, h6⟩ := h3.tail
  exact Right.cons h4 h5 (Right.cons h1 h2 right_nil)
theorem turned_perm (s t : Sq) (x y : List Bool) : (left [s, t] [x, y]).Perm (left [t, s] [y, x]) := by
  simp only [left, List.append_nil]
  exact List.perm_append_comm
theorem turned_out {s t : Sq} {x y : List Bool} (h : S.Unlike (left [s, t] [x, y])) : out true (left [s, t] [x, y]) = out true (left [t, s] [y, x]) := by
  unfold out ord
  rw [if_pos rfl, if_pos rfl, srt_ext h (turned_perm s t x y)]
end G
end Go.Proofs.YtnahjaloodeicaaGreat

/-
  The tables of segments merged: each place is got by one document. Plain mathematics; no function of the program is named here.
-/
namespace Go.Proofs.YtnahjaloodeicaaGreat
set_option maxRecDepth 100000
namespace G

/-- Where an id stands. -/
def at' (ids : List ByteArray) (x : ByteArray) : Nat := ids.findIdx fun y => decide (y = x)
theorem at_is : ∀ {ids : List ByteArray} {k : Nat} {x : ByteArray}, ids.Nodup → ids[k]? = some x → at' ids x = k
  | [], _, _, _, h => by simp at h
  | y :: ids, 0, x, _, h => by
    simp at h
    subst h
    simp [at', List.findIdx_cons]
  | y :: ids, k + 1, x, hn, h => by
    obtain ⟨h1, h2⟩ := List.nodup_cons.1 hn
    have hk : ids[k]? = some x := by simpa using h
    have hne : y ≠ x := fun e => h1 (by rw [e]; exact List.mem_of_getElem? hk)
    have ih := at_is h2 hk
    unfold at' at ih ⊢
    rw [List.findIdx_cons]
    simp [hne, ih]

def tab (ids : List ByteArray) : List Cd → List Bool → List Int
  | c :: l, b :: r => (if b = true then (at' ids c.id : Int) else -1) :: tab ids l r
  | _, _ => []
def tabs (ids : List ByteArray) : List Sq → List (List Bool) → List (List Int)
  | s :: l, a :: r => tab ids (S.crd s.1) a :: tabs ids l r
  | _, _ => []

theorem tab_at (ids : List ByteArray) : ∀ {l : List Cd} {a : List Bool} {k : Nat} {c : Cd} {b : Bool}, l[k]? = some c → a[k]? = some b → (tab ids l a)[k]? = some (if b = true then (at' ids c.id : Int) else -1)
  | [], _, _, _, _, h, _ => by simp at h
  | _ :: _, [], _, _, _, _, h => by simp at h
  | c :: l, b :: a, 0, _, _, h1, h2 => by
    simp at h1 h2
    subst h1 h2
    rfl
  | c :: l, b :: a, k + 1, c', b', h1, h2 => by
    have := tab_at ids (l := l) (a := a) (k := k) (c := c') (b := b') (by simpa using h1) (by simpa using h2)
    simpa [tab] using this
theorem tab_len (ids : List ByteArray) : ∀ {l : List Cd} {a : List Bool}, a.length = l.length → (tab ids l a).length = l.length
  | [], _, _ => rfl
  | _ :: _, [], h => by simp at h
  | c :: l, b :: a, h => by
    have := tab_len ids (l := l) (a := a) (by simpa using h)
    simp [tab, this]
theorem tabs_at (ids : List ByteArray) : ∀ {l : List Sq} {ls : List (List Bool)} {i : Nat} {s : Sq} {a : List Bool}, l[i]? = some s → ls[i]? = some a → (tabs ids l ls)[i]? = some (tab ids (S.crd s.1) a)
  | [], _, _, _, _, h, _ => by simp at h
  | _ :: _, [], _, _, _, _, h => by simp at h
  | s :: l, a :: ls, 0, _, _, h1, h2 => by
    simp at h1 h2
    subst h1 h2
    rfl
  | s :: l, a :: ls, i + 1, s', a', h1, h2 => by
    have := tabs_at ids (l := l) (ls := ls) (i := i) (s := s') (a := a') (by simpa using h1) (by simpa using h2)
    simpa [tabs] using this
theorem tabs_len (ids : List ByteArray) : ∀ {l : List Sq} {ls : List (List Bool)}, l.length = ls.length → (tabs ids l ls).length = l.length
  | [], _, _ => rfl
  | _ :: _, [], h => by simp at h
  | s :: l, a :: ls, h => by
    have := tabs_len ids (l := l) (ls := ls) (by simpa using h)
    simp [tabs, this]

/-- Who lives is left. -/
theorem alive_mem {α : Type} : ∀ {l : List α} {a : List Bool} {k : Nat} {c : α}, l[k]? = some c → a[k]? = some true → c ∈ alive l a
  | [], _, _, _, h, _ => by simp at h
  | _ :: _, [], _, _, _, h => by simp at h
  | x :: l, b :: a, 0, c, h1, h2 => by
    simp at h1 h2
    subst h1 h2
    simp [alive]
  | x :: l, b :: a, k + 1, c, h1, h2 => by
    have := alive_mem (l := l) (a := a) (k := k) (c := c) (by simpa using h1) (by simpa using h2)
    simp only [alive]
    split
    · exact List.mem_cons_of_mem _ this
    · exact this
theorem left_mem : ∀ {l : List Sq} {ls : List (List Bool)} {i k : Nat} {s : Sq} {a : List Bool} {c : Cd}, l[i]? = some s → ls[i]? = some a → (S.crd s.1)[k]? = some c → a[k]? = some true → c ∈ left l ls
  | [], _, _, _, _, _, _, h, _, _, _ => by simp at h
  | _ :: _, [], _, _, _, _, _, _, h, _, _ => by simp at h
  | x :: l, y :: ls, 0, k, s, a, c, h1, h2, h3, h4 => by
    simp at h1 h2
    subst h1 h2
    exact List.mem_append_left _ (alive_mem h3 h4)
  | x :: l, y :: ls, i + 1, k, s, a, c, h1, h2, h3, h4 => List.mem_append_right _ (left_mem (l := l) (ls := ls) (i := i) (by simpa using h1) (by simpa using h2) h3 h4)

/-- The place of a card that is left. -/
theorem unl_ids {L : List Cd} (h : S.Unlike L) : (L.map (·.id)).Nodup := by
  rw [List.nodup_iff_pairwise_ne, List.pairwise_map]
  exact h
theorem at_ord {L : List Cd} {so : Bool} (h : S.Unlike L) {c : Cd} (hc : c ∈ L) : (ord so L)[at' ((ord so L).map (·.id)) c.id]? = some c ∧ at' ((ord so L).map (·.id)) c.id < L.length := by
  have hm := (ord_perm so L).symm.subset hc
  obtain ⟨k, hk⟩ := List.mem_iff_getElem?.1 hm
  have e := at_is (unl_ids (h.perm (ord_perm so L).symm)) (show ((ord so L).map (·.id))[k]? = some c.id by rw [List.getElem?_map, hk]; rfl)
  rw [e]
  refine ⟨hk, ?_⟩
  rw [← (ord_perm so L).length_eq]
  exact (List.getElem?_eq_some_iff.1 hk).1

/-! ### Each place is got once -/

theorem tab_flat (ids : List ByteArray) (j : Nat) : ∀ (l : List Cd) (a : List Bool), (tab ids l a).count (j : Int) = ((alive l a).map fun c => (at' ids c.id : Int)).count (j : Int)
  | [], _ => by simp [tab, alive]
  | _ :: _, [] => by simp [tab, alive]
  | c :: l, b :: a => by
    have ih := tab_flat ids j l a
    cases b with
    | true => simp only [tab, alive, if_true, List.map_cons, List.count_cons, ih]
    | false =>
      have hne : ¬ (-1 : Int) = (j : Int) := by omega
      simp only [tab, alive, Bool.false_eq_true, if_false, List.count_cons, ih]
      simp [hne]
theorem tabs_flat (ids : List ByteArray) (j : Nat) : ∀ (l : List Sq) (ls : List (List Bool)), (tabs ids l ls).flatten.count (j : Int) = ((left l ls).map fun c => (at' ids c.id : Int)).count (j : Int)
  | [], _ => by simp [tabs, left]
  | _ :: _, [] => by simp [tabs, left]
  | s :: l, a :: ls => by
    have ih := tabs_flat ids j l ls
    simp only [tabs, left, List.flatten_cons, List.count_append, List.map_append, ih, tab_flat]
theorem once {L : List Cd} (h : S.Unlike L) (so : Bool) {j : Nat} (hj : j < L.length) : (L.map fun c => (at' ((ord so L).map (·.id)) c.id : Int)).count (j : Int) = 1 := by
  have hp := (ord_perm so L).map fun c => (at' ((ord so L).map (·.id)) c.id : Int)
  rw [← hp.count_eq]
  have e : ((ord so L).map fun c => (at' ((ord so L).map (·.id)) c.id : Int)) = R.nums (ord so L).length := by
    refine List.ext_getElem (by simp [R.nums_len]) fun i h1 h2 => ?_
    simp only [List.length_map] at h1
    have hi := List.getElem?_eq_getElem h1
    have := at_is (unl_ids (h.perm (ord_perm so L).symm)) (show ((ord so L).map (·.id))[i]? = some (ord so L)[i].id by rw [List.getElem?_map, hi]; rfl)
    simp [this, R.nums]
  rw [e, List.Nodup.count (R.nums_nodup _), if_pos]
  rw [R.nums_mem, (ord_perm so L).length_eq]
  omega
/-- How often a place is got. -/
theorem Good.once {l : List Sq} {ls : List (List Bool)} (h : Good l ls) (so : Bool) {j : Nat} (hj : j < (out so (left l ls)).ids.length) : (tabs (out so (left l ls)).ids l ls).flatten.count (j : Int) = 1 := by
  have e : (out so (left l ls)).ids = (ord so (left l ls)).map (·.id) := rfl
  rw [e, List.length_map, (ord_perm so _).length_eq] at hj
  rw [tabs_flat, e]
  exact G.once h.unl so hj

/-- What a table has of a document. -/
theorem Good.entry {l : List Sq} {ls : List (List Bool)} (h : Good l ls) (so : Bool) {i k : Nat} {s : Sq} {a : List Bool} {c : Cd} {b : Bool} (h1 : l[i]? = some s) (h2 : ls[i]? = some a) (h3 : (S.crd s.1)[k]? = some c) (h4 : a[k]? = some b) :
    ∃ t, (tabs (out so (left l ls)).ids l ls)[i]? = some t ∧ t.length = s.1.ids.length ∧ (b = false → t[k]? = some (-1)) ∧ (b = true → ∃ n : Nat, t[k]? = some (n : Int) ∧ n < (out so (left l ls)).ids.length ∧ (ord so (left l ls))[n]? = some c) := by
  refine ⟨_, tabs_at _ h1 h2, ?_, fun hb => ?_, fun hb => ?_⟩
  · rw [tab_len]
    · exact S.crd_len _
    · rw [S.crd_len]
      exact (h.right.2 i s a h1 h2).2
  · subst hb
    exact tab_at _ h3 h4
  · subst hb
    have hm := left_mem h1 h2 h3 h4
    obtain ⟨g1, g2⟩ := at_ord (so := so) h.unl hm
    refine ⟨_, tab_at _ h3 h4, ?_, g1⟩
    show _ < ((ord so (left l ls)).map (·.id)).length
    rw [List.length_map, (ord_perm so _).length_eq]
    exact g2

/-! ### What has been got ahead of document k of segment i -/

def seen (T : List (List Int)) (i k : Nat) : List Int := (T.take i).flatten ++ ((T[i]?).getD []).take k
theorem seen_start (T : List (List Int)) : seen T 0 0 = [] := by simp [seen]
theorem seen_table {T : List (List Int)} {i : Nat} {t : List Int} (h : T[i]? = some t) : seen T i t.length = seen T (i + 1) 0 := by
  obtain ⟨hi, rfl⟩ := List.getElem?_eq_some_iff.1 h
  unfold seen
  have e : (T.take (i + 1)).flatten = (T.take i).flatten ++ T[i] := by rw [List.take_succ_eq_append_getElem hi, List.flatten_append]; simp only [List.flatten_cons, List.flatten_nil, List.append_nil]
  rw [e, h]
  simp
theorem seen_step {T : List (List Int)} {i k : Nat} {t : List Int} {n : Int} (h : T[i]? = some t) (hk : t[k]? = some n) : seen T i (k + 1) = seen T i k ++ [n] := by
  obtain ⟨hkl, rfl⟩ := List.getElem?_eq_some_iff.1 hk
  unfold seen
  rw [h]
  have e : t.take (k + 1) = t.take k ++ [t[k]] := List.take_succ_eq_append_getElem hkl
  simp only [Option.getD_some, e, List.append_assoc]
theorem seen_all {T : List (List Int)} {i : Nat} (h : T.length ≤ i) : seen T i 0 = T.flatten := by
  unfold seen
  rw [List.take_of_length_le h]
  simp
end G
end Go.Proofs.YtnahjaloodeicaaGreat

/-
  Segments gone through at once: whose next document is the least gets the next place. Plain mathematics; no function of the program is named here.
-/
namespace Go.Proofs.YtnahjaloodeicaaGreat
set_option maxRecDepth 100000

/-- A document that is gone through: its place in its segment, and its head. -/
structure Dc where
  d : Nat
  id : ByteArray
  key : Int
def Dc.c (x : Dc) : Cd := ⟨x.id, x.key, []⟩

namespace G

/-- A segment's documents as they are gone through. -/
def idx (so : Bool) (s : Sg) : List Nat := if so = true then R.ord s.keys s.ids s.keys.length else List.range s.ids.length
def doc (s : Sg) (d : Nat) : Dc := ⟨d, s.ids.getD d ⟨#[]⟩, s.keys.getD d 0⟩
/-- Those that live. -/
def wk (so : Bool) (s : Sg) (a : List Bool) : List Dc := ((idx so s).filter fun d => a.getD d false).map (doc s)
def wks (so : Bool) : List Sq → List (List Bool) → List (List Dc)
  | s :: l, a :: ls => wk so s.1 a :: wks so l ls
  | _, _ => []

/-- Whose next document comes ahead of all others'. -/
def lst (so : Bool) : List (List Dc) → Nat → Option (Nat × Dc) → Option (Nat × Dc)
  | [], _, b => b
  | [] :: r, i, b => lst so r (i + 1) b
  | (x :: _) :: r, i, none => lst so r (i + 1) (some (i, x))
  | (x :: _) :: r, i, some (j, y) => lst so r (i + 1) (if so = true ∧ S.before x.c y.c = true then some (i, x) else some (j, y))

theorem idx_perm {s : Sg} {so0 : Bool} (so : Bool) (h : MayP s so0) : (idx so s).Perm (List.range s.ids.length) := by
  unfold idx
  split
  · have := (R.ord_sorted s.keys s.ids s.keys.length).2
    rwa [h.heads.nk] at this ⊢
  · exact List.Perm.refl _

theorem crd_head {s : Sg} {d : Nat} (h : d < s.ids.length) : ∃ c, (S.crd s)[d]? = some c ∧ c.id = (doc s d).id ∧ c.key = (doc s d).key := ⟨_, S.crd_get h, rfl, rfl⟩

theorem mem_wk {so so0 : Bool} {s : Sg} {a : List Bool} (h : MayP s so0) {x : Dc} : x ∈ wk so s a ↔ x.d < s.ids.length ∧ a.getD x.d false = true ∧ x = doc s x.d := by
  unfold wk
  rw [List.mem_map]
  constructor
  · rintro ⟨d, hd, rfl⟩
    rw [List.mem_filter] at hd
    have := (idx_perm so h).mem_iff.1 hd.1
    rw [List.mem_range] at this
    exact ⟨this, hd.2, rfl⟩
  · rintro ⟨h1, h2, h3⟩
    exact ⟨x.d, List.mem_filter.2 ⟨(idx_perm so h).mem_iff.2 (List.mem_range.2 h1), h2⟩, h3.symm⟩

def hdC (c : Cd) : ByteArray × Int := (c.id, c.key)
def hdD (x : Dc) : ByteArray × Int := (x.id, x.key)
theorem alive_idx (s : Sg) : ∀ (n : Nat) (l : List Cd) (a : List Bool), n + l.length = s.ids.length → (∀ j c, l[j]? = some c → (S.crd s)[n + j]? = some c) → a.length = l.length →
    (alive l a).map hdC = (((List.range' n l.length).filter fun d => (a.getD (d - n) false)).map (doc s)).map hdD
  | n, [], a, _, _, _ => rfl
  | n, c :: l, [], _, _, h => by simp at h
  | n, c :: l, b :: a, h1, h2, h3 => by
    have ih := alive_idx s (n + 1) l a (by simp at h1; omega) (fun j c' hj => by have := h2 (j + 1) c' (by simpa using hj); rwa [show n + (j + 1) = n + 1 + j by omega] at this) (by simpa using h3)
    have e : ((List.range' (n + 1) l.length).filter fun d => ((b :: a).getD (d - n) false)) = (List.range' (n + 1) l.length).filter fun d => (a.getD (d - (n + 1)) false) := by
      refine List.filter_congr fun d hd => ?_
      have := (List.mem_range'_1.1 hd).1
      rw [show d - n = d - (n + 1) + 1 by omega]
      simp
    have hc : hdC c = hdD (doc s n) := by
      obtain ⟨h1, rfl⟩ := S.crd_at (h2 0 c rfl)
      rfl
    rw [List.length_cons, List.range'_succ, List.filter_cons, e]
    simp only [alive, Nat.sub_self, List.getD_cons_zero]
    cases b with
    | true => simp [ih, hc]
    | false => simpa using ih

/-- Not sorted, they are gone through as they are left. -/
theorem wk_plain {s : Sg} {a : List Bool} (h : a.length = s.ids.length) : (wk false s a).map hdD = (alive (S.crd s) a).map hdC := by
  have k := alive_idx s 0 (S.crd s) a (by rw [S.crd_len]; omega) (fun j c hj => by simpa using hj) (by rw [S.crd_len]; exact h)
  have e : wk false s a = ((List.range' 0 (S.crd s).length).filter fun d => (a.getD (d - 0) false)).map (doc s) := by
    unfold wk idx
    rw [if_neg (by simp), S.crd_len, ← List.range_eq_range']
    simp
  rw [e, k]
theorem wk_perm {s : Sg} {so so0 : Bool} {a : List Bool} (h : MayP s so0) : (wk so s a).Perm (wk false s a) := by
  unfold wk
  exact (((idx_perm so h).trans (idx_perm false h).symm).filter _).map _
theorem wks_plain : ∀ {l : List Sq} {ls : List (List Bool)}, Right l ls → (wks false l ls).flatten.map hdD = (left l ls).map hdC
  | [], [], _ => rfl
  | [], _ :: _, h => by simpa using h.1
  | _ :: _, [], h => by simpa using h.1
  | s :: l, a :: ls, h => by
    obtain ⟨⟨h1, h2⟩, h3⟩ := h.tail
    have ih := wks_plain h3
    have k := wk_plain h2
    simp [wks, left, ih, k]
theorem wks_perm (so : Bool) : ∀ {l : List Sq} {ls : List (List Bool)}, Right l ls → (wks so l ls).flatten.Perm (wks false l ls).flatten
  | [], [], _ => List.Perm.refl _
  | [], _ :: _, h => by simpa using h.1
  | _ :: _, [], h => by simpa using h.1
  | s :: l, a :: ls, h => by
    obtain ⟨⟨h1, h2⟩, h3⟩ := h.tail
    simp only [wks, List.flatten_cons]
    exact (wk_perm h1).append (wks_perm so h3)
theorem wks_len (so : Bool) : ∀ {l : List Sq} {ls : List (List Bool)}, l.length = ls.length → (wks so l ls).length = l.length
  | [], [], _ => rfl
  | [], _ :: _, h => by simp at h
  | _ :: _, [], h => by simp at h
  | s :: l, a :: ls, h => by simp [wks, wks_len so (l := l) (ls := ls) (by simpa using h)]
theorem wks_at (so : Bool) : ∀ {l : List Sq} {ls : List (List Bool)} {i : Nat} {s : Sq} {a : List Bool}, l[i]? = some s → ls[i]? = some a → (wks so l ls)[i]? = some (wk so s.1 a)
  | [], _, _, _, _, h, _ => by simp at h
  | _ :: _, [], _, _, _, _, h => by simp at h
  | s :: l, a :: ls, 0, _, _, h1, h2 => by
    simp at h1 h2
    subst h1 h2
    rfl
  | s :: l, a :: ls, i + 1, s', a', h1, h2 => by
    have := wks_at so (l := l) (ls := ls) (i := i) (s := s') (a := a') (by simpa using h1) (by simpa using h2)
    simpa [wks] using this
end G
end Go.Proofs.YtnahjaloodeicaaGreat

/-
  Segments gone through at once, and the places that their documents get: who comes next, what the tables have by then, and at the end. Plain mathematics; no function of the program is named here.
-/
namespace Go.Proofs.YtnahjaloodeicaaGreat
set_option maxRecDepth 100000
namespace G

theorem lst_keep (so : Bool) : ∀ (X : List (List Dc)) (k j : Nat) (x : Dc), (so = true → ∀ l ∈ X, ∀ y r, l = y :: r → S.before y.c x.c = false) → lst so X k (some (j, x)) = some (j, x)
  | [], _, _, _, _ => rfl
  | [] :: X, k, j, x, h => by
    rw [lst]
    exact lst_keep so X (k + 1) j x fun hs l hl => h hs l (List.mem_cons_of_mem _ hl)
  | (y :: r) :: X, k, j, x, h => by
    rw [lst, if_neg ?_]
    · exact lst_keep so X (k + 1) j x fun hs l hl => h hs l (List.mem_cons_of_mem _ hl)
    · rintro ⟨h1, h2⟩
      rw [h h1 _ List.mem_cons_self y r rfl] at h2
      cases h2

theorem lst_win (so : Bool) : ∀ (X : List (List Dc)) (k : Nat) (b : Option (Nat × Dc)) (i : Nat) (x : Dc) (r : List Dc), X[i]? = some (x :: r) → (so = false → b = none ∧ ∀ j, j < i → X[j]? = some []) →
    (so = true → (∀ q, b = some q → S.before x.c q.2.c = true) ∧ ∀ j y t, j ≠ i → X[j]? = some (y :: t) → S.before x.c y.c = true) → lst so X k b = some (k + i, x)
  | [], _, _, _, _, _, h, _, _ => by simp at h
  | l :: X, k, b, 0, x, r, h, h1, h2 => by
    simp at h
    subst h
    have hk : lst so X (k + 1) (some (k, x)) = some (k, x) := lst_keep so X (k + 1) k x fun hs l hl y t e => by
      subst e
      obtain ⟨j, hj⟩ := List.mem_iff_getElem?.1 hl
      exact S.before_asymm ((h2 hs).2 (j + 1) y t (by omega) (by simpa using hj))
    cases b with
    | none => rw [lst]; exact hk
    | some q =>
      cases so with
      | false => cases (h1 rfl).1
      | true =>
        obtain ⟨j, y⟩ := q
        rw [lst, if_pos ⟨rfl, (h2 rfl).1 _ rfl⟩]
        exact hk
  | [] :: X, k, b, i + 1, x, r, h, h1, h2 => by
    rw [lst, show k + (i + 1) = k + 1 + i by omega]
    exact lst_win so X (k + 1) b i x r (by simpa using h) (fun hs => ⟨(h1 hs).1, fun j hj => by simpa using (h1 hs).2 (j + 1) (by omega)⟩)
      (fun hs => ⟨(h2 hs).1, fun j y t hj hy => (h2 hs).2 (j + 1) y t (by omega) (by simpa using hy)⟩)
  | (z :: t) :: X, k, b, i + 1, x, r, h, h1, h2 => by
    cases so with
    | false =>
      have := (h1 rfl).2 0 (by omega)
      simp at this
    | true =>
      have hz := (h2 rfl).2 0 z t (by omega) rfl
      have go : ∀ q : Nat × Dc, S.before x.c q.2.c = true → lst true X (k + 1) (some q) = some (k + (i + 1), x) := fun q hq => by
        rw [show k + (i + 1) = k + 1 + i by omega]
        exact lst_win true X (k + 1) (some q) i x r (by simpa using h) (fun hs => by cases hs)
          (fun _ => ⟨fun q' e => by cases e; exact hq, fun j y t hj hy => (h2 rfl).2 (j + 1) y t (by omega) (by simpa using hy)⟩)
      cases b with
      | none => rw [lst]; exact go _ hz
      | some q =>
        obtain ⟨j, y⟩ := q
        rw [lst]
        split
        · exact go _ hz
        · exact go _ ((h2 rfl).1 _ rfl)

theorem lst_none (so : Bool) : ∀ (X : List (List Dc)) (k : Nat), (∀ l ∈ X, l = []) → lst so X k none = none
  | [], _, _ => rfl
  | l :: X, k, h => by
    have e := h l List.mem_cons_self
    subst e
    rw [lst]
    exact lst_none so X (k + 1) fun m hm => h m (List.mem_cons_of_mem _ hm)

/-- What is asked of those that are gone through. -/
structure Run (so : Bool) (W : List (List Dc)) (P : Dc → Nat) (N : Nat) : Prop where
  up : ∀ l ∈ W, l.Pairwise fun x y => P x < P y
  all : ∀ p, p < N → ∃ (i : Nat) (l : List Dc), W[i]? = some l ∧ ∃ x ∈ l, P x = p
  lt : ∀ l ∈ W, ∀ x ∈ l, P x < N
  one : ∀ (i j : Nat) l m x y, W[i]? = some l → W[j]? = some m → x ∈ l → y ∈ m → P x = P y → i = j
  bef : so = true → ∀ l ∈ W, ∀ m ∈ W, ∀ x ∈ l, ∀ y ∈ m, P x < P y → S.before x.c y.c = true
  seq : so = false → ∀ (i j : Nat) l m x y, i < j → W[i]? = some l → W[j]? = some m → x ∈ l → y ∈ m → P x < P y

def rest (P : Dc → Nat) (p : Nat) (l : List Dc) : List Dc := l.filter fun x => decide (p ≤ P x)
theorem rest_start (P : Dc → Nat) (l : List Dc) : rest P 0 l = l := by
  unfold rest
  rw [List.filter_eq_self]
  intro x _
  simp
theorem rest_none {P : Dc → Nat} {p : Nat} {l : List Dc} (h : ∀ x ∈ l, P x < p) : rest P p l = [] := by
  unfold rest
  rw [List.filter_eq_nil_iff]
  intro x hx
  have := h x hx
  simp; omega
theorem rest_same {P : Dc → Nat} {p : Nat} {l : List Dc} (h : ∀ x ∈ l, P x ≠ p) : rest P (p + 1) l = rest P p l := by
  unfold rest
  refine List.filter_congr fun x hx => ?_
  have := h x hx
  simp only [decide_eq_decide]
  omega
theorem rest_head {P : Dc → Nat} {p : Nat} : ∀ {l : List Dc}, (l.Pairwise fun x y => P x < P y) → ∀ {x : Dc}, x ∈ l → P x = p → rest P p l = x :: rest P (p + 1) l
  | [], _, x, hx, _ => by cases hx
  | y :: l, h, x, hx, hp => by
    rw [List.pairwise_cons] at h
    by_cases e : P y = p
    · have hxy : x = y := by
        rcases List.mem_cons.1 hx with h1 | h1
        · exact h1
        · have := h.1 x h1; omega
      subst hxy
      have : rest P p l = rest P (p + 1) l := (rest_same fun z hz => by have := h.1 z hz; omega).symm
      unfold rest at this ⊢
      rw [List.filter_cons_of_pos (by simp; omega), List.filter_cons_of_neg (by simp; omega), this]
    · have h1 : x ∈ l := by
        rcases List.mem_cons.1 hx with h1 | h1
        · subst h1; exact absurd hp e
        · exact h1
      have := h.1 x h1
      have ih := rest_head h.2 h1 hp
      unfold rest at ih ⊢
      rw [List.filter_cons_of_neg (by simp; omega), List.filter_cons_of_neg (by simp; omega), ih]
theorem mem_rest {P : Dc → Nat} {p : Nat} {l : List Dc} {x : Dc} : x ∈ rest P p l ↔ x ∈ l ∧ p ≤ P x := by
  unfold rest
  rw [List.mem_filter, decide_eq_true_eq]

theorem Run.next {so : Bool} {W : List (List Dc)} {P : Dc → Nat} {N p : Nat} (h : Run so W P N) (hp : p < N) :
    ∃ (i : Nat) (l : List Dc) (x : Dc), W[i]? = some l ∧ x ∈ l ∧ P x = p ∧ rest P p l = x :: rest P (p + 1) l ∧ lst so (W.map (rest P p)) 0 none = some (i, x) ∧ ∀ (j : Nat) m, W[j]? = some m → j ≠ i → (∀ y ∈ m, P y ≠ p) ∧ rest P (p + 1) m = rest P p m := by
  obtain ⟨i, l, hi, x, hx, e⟩ := h.all p hp
  have hh := rest_head (h.up l (List.mem_of_getElem? hi)) hx e
  refine ⟨i, l, x, hi, hx, e, hh, ?_, fun j m hm hj => ?_⟩
  · have hX : (W.map (rest P p))[i]? = some (x :: rest P (p + 1) l) := by rw [List.getElem?_map, hi, Option.map_some, hh]
    have := lst_win so (W.map (rest P p)) 0 none i x _ hX (fun hs => ⟨rfl, fun j hj => ?_⟩) (fun hs => ⟨fun q e => (by cases e), fun j y t hj hy => ?_⟩)
    · rwa [Nat.zero_add] at this
    · obtain ⟨m, hm⟩ : ∃ m, W[j]? = some m := ⟨_, List.getElem?_eq_getElem (by have := (List.getElem?_eq_some_iff.1 hi).1; omega)⟩
      rw [List.getElem?_map, hm, Option.map_some]
      congr 1
      exact rest_none fun y hy => by have := h.seq hs j i m l y x hj hm hi hy hx; omega
    · rw [List.getElem?_map] at hy
      obtain ⟨m, hm, hy⟩ := Option.map_eq_some_iff.1 hy
      obtain ⟨h1, h2⟩ := mem_rest.1 (show y ∈ rest P p m by rw [hy]; exact List.mem_cons_self)
      have hne : P x ≠ P y := fun e9 => hj (h.one i j l m x y hi hm hx h1 e9).symm
      exact h.bef hs l (List.mem_of_getElem? hi) m (List.mem_of_getElem? hm) x hx y h1 (by omega)
  · have hne : ∀ y ∈ m, P y ≠ p := fun y hy e9 => hj (h.one j i m l y x hm hi hy hx (by omega))
    exact ⟨hne, rest_same hne⟩
theorem Run.stop {so : Bool} {W : List (List Dc)} {P : Dc → Nat} {N : Nat} (h : Run so W P N) : lst so (W.map (rest P N)) 0 none = none :=
  lst_none so _ 0 fun m hm => by
    obtain ⟨l, hl, rfl⟩ := List.mem_map.1 hm
    exact rest_none (h.lt l hl)

/-- What a table has by then. -/
structure Tt (P : Dc → Nat) (p : Nat) (l : List Dc) (n : Nat) (t : List Int) : Prop where
  len : t.length = n
  got : ∀ x ∈ l, P x < p → t[x.d]? = some (P x : Int)
  not : ∀ d, d < n → (∀ x ∈ l, x.d = d → p ≤ P x) → t[d]? = some (-1)
theorem Tt.start (P : Dc → Nat) (l : List Dc) (n : Nat) : Tt P 0 l n (List.replicate n (-1)) := ⟨by simp, fun x _ h => by omega, fun d hd _ => by simp [hd]⟩
theorem Tt.same {P : Dc → Nat} {p : Nat} {l : List Dc} {n : Nat} {t : List Int} (h : Tt P p l n t) (hne : ∀ y ∈ l, P y ≠ p) : Tt P (p + 1) l n t :=
  ⟨h.len, fun x hx hp => h.got x hx (by have := hne x hx; omega), fun d hd hx => h.not d hd fun x hx' e => by have := hx x hx' e; omega⟩
theorem Tt.step {P : Dc → Nat} {p : Nat} {l : List Dc} {n : Nat} {t : List Int} {x : Dc} (h : Tt P p l n t) (hx : x ∈ l) (hp : P x = p) (hd : x.d < n) (hu : ∀ y ∈ l, y.d = x.d → y = x) (hi : ∀ y ∈ l, P y = p → y = x) : Tt P (p + 1) l n (t.set x.d (p : Int)) := by
  refine ⟨by simp [h.len], fun y hy hyp => ?_, fun d hd' hy => ?_⟩
  · by_cases e : P y = p
    · obtain rfl := hi y hy e
      rw [List.getElem?_set_self (by rw [h.len]; exact hd), e]
    · have hne : x.d ≠ y.d := fun e9 => e (by rw [hu y hy e9.symm]; exact hp)
      rw [List.getElem?_set_ne hne]
      exact h.got y hy (by omega)
  · have hne : x.d ≠ d := fun e9 => by have := hy x hx e9; omega
    rw [List.getElem?_set_ne hne]
    exact h.not d hd' fun y hy' e => by have := hy y hy' e; omega

/-- The place of a document in what comes. -/
def pl (ids : List ByteArray) (x : Dc) : Nat := at' ids x.id
theorem Tt.done {ids : List ByteArray} {N : Nat} {so so0 : Bool} {s : Sg} {a : List Bool} {t : List Int} (hM : MayP s so0) (ha : a.length = s.ids.length) (h : Tt (pl ids) N (wk so s a) s.ids.length t) (hl : ∀ x ∈ wk so s a, pl ids x < N) : t = tab ids (S.crd s) a := by
  refine List.ext_getElem? fun d => ?_
  by_cases hd : d < s.ids.length
  · have hc := S.crd_get hd
    have hb : a[d]? = some a[d] := List.getElem?_eq_getElem (by omega)
    rw [tab_at ids hc hb]
    by_cases hv : a[d] = true
    · rw [if_pos hv]
      have hx : doc s d ∈ wk so s a := (mem_wk hM).2 ⟨hd, by simp [List.getD, hb, doc, hv], rfl⟩
      exact h.got _ hx (hl _ hx)
    · rw [if_neg hv]
      refine h.not d hd fun x hx e => ?_
      have := ((mem_wk hM).1 hx).2.1
      rw [e, List.getD, hb] at this
      exact absurd this hv
  · rw [List.getElem?_eq_none (by rw [h.len]; omega), List.getElem?_eq_none (by rw [tab_len ids (by rw [S.crd_len]; exact ha), S.crd_len]; omega)]
end G
end Go.Proofs.YtnahjaloodeicaaGreat

/-
  The documents of segments that may be merged, gone through at once, meet what is asked. Plain mathematics; no function of the program is named here.
-/
namespace Go.Proofs.YtnahjaloodeicaaGreat
set_option maxRecDepth 100000
namespace G

theorem before_hd {c e : Cd} {x y : Dc} (h1 : hdC c = hdD x) (h2 : hdC e = hdD y) : S.before c e = S.before x.c y.c := by
  simp only [hdC, hdD, Prod.mk.injEq] at h1 h2
  unfold S.before Dc.c
  rw [h1.1, h1.2, h2.1, h2.2]

section
variable {l : List Sq} {ls : List (List Bool)}

theorem wks_hd (h : Right l ls) (so : Bool) : ((wks so l ls).flatten.map hdD).Perm ((left l ls).map hdC) := by
  rw [← wks_plain h]
  exact (wks_perm so h).map _

theorem wks_card (h : Right l ls) {so : Bool} {x : Dc} (hx : x ∈ (wks so l ls).flatten) : ∃ c ∈ left l ls, hdC c = hdD x := by
  have := (wks_hd h so).subset (List.mem_map.2 ⟨x, hx, rfl⟩)
  exact List.mem_map.1 this
theorem card_wks (h : Right l ls) {so : Bool} {c : Cd} (hc : c ∈ left l ls) : ∃ x ∈ (wks so l ls).flatten, hdD x = hdC c := by
  have := (wks_hd h so).symm.subset (List.mem_map.2 ⟨c, hc, rfl⟩)
  exact List.mem_map.1 this

/-- The place of a document, and the card that stands there. -/
theorem Good.place (h : Good l ls) (so : Bool) {x : Dc} (hx : x ∈ (wks so l ls).flatten) : ∃ c ∈ left l ls, hdC c = hdD x ∧ (ord so (left l ls))[pl (out so (left l ls)).ids x]? = some c ∧ pl (out so (left l ls)).ids x < (left l ls).length := by
  obtain ⟨c, hc, e⟩ := wks_card h.right hx
  have e1 : c.id = x.id := by simp only [hdC, hdD, Prod.mk.injEq] at e; exact e.1
  have := at_ord (so := so) h.unl hc
  rw [e1] at this
  exact ⟨c, hc, e, this.1, this.2⟩

theorem Good.ids (h : Good l ls) (so : Bool) : (wks so l ls).flatten.Pairwise fun x y => x.id ≠ y.id := by
  have h1 : ((wks so l ls).flatten.map (·.id)).Perm ((left l ls).map (·.id)) := by
    have := (wks_hd h.right so).map Prod.fst
    simpa [List.map_map, Function.comp_def, hdC, hdD] using this
  have := h1.nodup_iff.2 (unl_ids h.unl)
  rwa [List.nodup_iff_pairwise_ne, List.pairwise_map] at this

theorem Good.apart (h : Good l ls) (so : Bool) {i j : Nat} {m n : List Dc} {x y : Dc} (hi : (wks so l ls)[i]? = some m) (hj : (wks so l ls)[j]? = some n) (hx : x ∈ m) (hy : y ∈ n) (e : x.id = y.id) : i = j := by
  have hp := (List.pairwise_flatten.1 (h.ids so)).2
  obtain ⟨h1, rfl⟩ := List.getElem?_eq_some_iff.1 hi
  obtain ⟨h2, rfl⟩ := List.getElem?_eq_some_iff.1 hj
  rw [List.pairwise_iff_getElem] at hp
  rcases Nat.lt_trichotomy i j with h3 | h3 | h3
  · exact absurd e (hp i j h1 h2 h3 x hx y hy)
  · exact h3
  · exact absurd e.symm (hp j i h2 h1 h3 y hy x hx)

theorem mem_flat {so : Bool} {m : List Dc} {x : Dc} (hm : m ∈ wks so l ls) (hx : x ∈ m) : x ∈ (wks so l ls).flatten := List.mem_flatten.2 ⟨m, hm, hx⟩

/-- Not sorted: one behind the other. -/
theorem Good.plain (h : Good l ls) : (wks false l ls).flatten.Pairwise fun x y => pl (out false (left l ls)).ids x < pl (out false (left l ls)).ids y := by
  have e := wks_plain h.right
  have key : ∀ (i : Nat) (hi : i < (wks false l ls).flatten.length), pl (out false (left l ls)).ids (wks false l ls).flatten[i] = i := fun i hi => by
    refine at_is (unl_ids (h.unl.perm (ord_perm false _).symm)) ?_
    show ((ord false (left l ls)).map (·.id))[i]? = _
    have e1 : ((wks false l ls).flatten.map hdD)[i]? = ((left l ls).map hdC)[i]? := by rw [e]
    rw [List.getElem?_map, List.getElem?_map, List.getElem?_eq_getElem hi] at e1
    have e2 : ord false (left l ls) = left l ls := rfl
    rw [e2, List.getElem?_map]
    obtain ⟨c, hc, e3⟩ := Option.map_eq_some_iff.1 e1.symm
    rw [hc]
    simp only [hdC, hdD, Prod.mk.injEq] at e3
    simp [e3.1]
  rw [List.pairwise_iff_getElem]
  intro i j hi hj hij
  rw [key i hi, key j hj]
  exact hij

theorem Good.lt_of (h : Good l ls) {x y : Dc} (hx : x ∈ (wks true l ls).flatten) (hy : y ∈ (wks true l ls).flatten) (hb : S.before x.c y.c = true) : pl (out true (left l ls)).ids x < pl (out true (left l ls)).ids y := by
  obtain ⟨c, -, e1, p1, -⟩ := h.place true hx
  obtain ⟨e, -, e2, p2, -⟩ := h.place true hy
  have hup : S.Up (ord true (left l ls)) := S.srt_up h.unl
  rw [← before_hd e1 e2] at hb
  rcases Nat.lt_trichotomy (pl (out true (left l ls)).ids x) (pl (out true (left l ls)).ids y) with h3 | h3 | h3
  · exact h3
  · rw [h3, p2] at p1
    cases p1
    rw [S.before_irrefl] at hb
    cases hb
  · have hp := hup
    unfold S.Up at hp
    rw [List.pairwise_iff_getElem] at hp
    obtain ⟨q1, r1⟩ := List.getElem?_eq_some_iff.1 p1
    obtain ⟨q2, r2⟩ := List.getElem?_eq_some_iff.1 p2
    have := hp _ _ q2 q1 h3
    rw [r1, r2] at this
    rw [S.before_asymm this] at hb
    cases hb
theorem Good.bef (h : Good l ls) {x y : Dc} (hx : x ∈ (wks true l ls).flatten) (hy : y ∈ (wks true l ls).flatten) (hb : pl (out true (left l ls)).ids x < pl (out true (left l ls)).ids y) : S.before x.c y.c = true := by
  obtain ⟨c, -, e1, p1, -⟩ := h.place true hx
  obtain ⟨e, -, e2, p2, -⟩ := h.place true hy
  have hp : S.Up (ord true (left l ls)) := S.srt_up h.unl
  rw [← before_hd e1 e2]
  unfold S.Up at hp
  rw [List.pairwise_iff_getElem] at hp
  obtain ⟨q1, r1⟩ := List.getElem?_eq_some_iff.1 p1
  obtain ⟨q2, r2⟩ := List.getElem?_eq_some_iff.1 p2
  have := hp _ _ q1 q2 hb
  rwa [r1, r2] at this

theorem wks_inv {so : Bool} : ∀ {l : List Sq} {ls : List (List Bool)} {m : List Dc}, m ∈ wks so l ls → ∃ (i : Nat) (s : Sq) (a : List Bool), l[i]? = some s ∧ ls[i]? = some a ∧ m = wk so s.1 a
  | [], _, _, h => by simp [wks] at h
  | _ :: _, [], _, h => by simp [wks] at h
  | s :: l, a :: ls, m, h => by
    rcases List.mem_cons.1 h with rfl | h
    · exact ⟨0, s, a, rfl, rfl, rfl⟩
    · obtain ⟨i, s', a', h1, h2, h3⟩ := wks_inv h
      exact ⟨i + 1, s', a', by simpa using h1, by simpa using h2, h3⟩

theorem Good.up (h : Good l ls) (so : Bool) : ∀ m ∈ wks so l ls, m.Pairwise fun x y => pl (out so (left l ls)).ids x < pl (out so (left l ls)).ids y := fun m hm => by
  cases so with
  | false => exact (List.pairwise_flatten.1 h.plain).1 m hm
  | true =>
    have hid := (List.pairwise_flatten.1 (h.ids true)).1 m hm
    obtain ⟨i, s, a, h1, h2, rfl⟩ := wks_inv hm
    have hM := (h.right.2 i s a h1 h2).1
    have hlt : (wk true s.1 a).Pairwise fun x y => R.lt s.1.keys s.1.ids x.d y.d = true := by
      unfold wk idx
      rw [if_pos rfl, List.pairwise_map]
      exact ((R.ord_sorted s.1.keys s.1.ids s.1.keys.length).1).filter _
    have hall : ∀ x ∈ wk true s.1 a, x ∈ (wks true l ls).flatten := fun x hx => mem_flat hm hx
    refine (List.Pairwise.and hid hlt).imp_of_mem fun {x y} hx hy hxy => h.lt_of (hall x hx) (hall y hy) ?_
    obtain ⟨-, -, ex⟩ := (mem_wk hM).1 hx
    obtain ⟨-, -, ey⟩ := (mem_wk hM).1 hy
    have h3 := R.lt_iff.1 hxy.2
    have h4 := hxy.1
    rw [ex, ey] at h4 ⊢
    rw [S.before_iff]
    rcases h3 with h3 | ⟨h5, h3 | h3⟩
    · exact .inl h3
    · exact .inr ⟨h5, h3⟩
    · exact absurd h3.1 h4

theorem Good.run (h : Good l ls) (so : Bool) : Run so (wks so l ls) (pl (out so (left l ls)).ids) (left l ls).length where
  up := h.up so
  all p hp := by
    have hp' : p < (ord so (left l ls)).length := by rw [(ord_perm so _).length_eq]; exact hp
    have hc := List.getElem?_eq_getElem hp'
    have hm := (ord_perm so (left l ls)).subset (List.getElem_mem hp')
    obtain ⟨x, hx, e⟩ := card_wks h.right (so := so) hm
    obtain ⟨m, hm, hxm⟩ := List.mem_flatten.1 hx
    obtain ⟨i, hi⟩ := List.mem_iff_getElem?.1 hm
    refine ⟨i, m, hi, x, hxm, at_is (unl_ids (h.unl.perm (ord_perm so _).symm)) ?_⟩
    show ((ord so (left l ls)).map (·.id))[p]? = _
    simp only [hdC, hdD, Prod.mk.injEq] at e
    rw [List.getElem?_map, hc, e.1]
    rfl
  lt m hm x hx := by
    obtain ⟨c, -, -, -, h1⟩ := h.place so (mem_flat hm hx)
    exact h1
  one i j m n x y hi hj hx hy e := by
    obtain ⟨c, -, e1, p1, -⟩ := h.place so (mem_flat (List.mem_of_getElem? hi) hx)
    obtain ⟨c2, -, e2, p2, -⟩ := h.place so (mem_flat (List.mem_of_getElem? hj) hy)
    rw [e, p2] at p1
    cases p1
    refine h.apart so hi hj hx hy ?_
    simp only [hdC, hdD, Prod.mk.injEq] at e1 e2
    rw [← e1.1, ← e2.1]
  bef hs m hm n hn x hx y hy hxy := by
    subst hs
    exact h.bef (mem_flat hm hx) (mem_flat hn hy) hxy
  seq hs i j m n x y hij hi hj hx hy := by
    subst hs
    have hp := (List.pairwise_flatten.1 h.plain).2
    obtain ⟨h1, rfl⟩ := List.getElem?_eq_some_iff.1 hi
    obtain ⟨h2, rfl⟩ := List.getElem?_eq_some_iff.1 hj
    rw [List.pairwise_iff_getElem] at hp
    exact hp i j h1 h2 hij x hx y hy
/-- Documents of one segment that are of one place are one. -/
theorem Good.same (h : Good l ls) {so : Bool} {m : List Dc} (hm : m ∈ wks so l ls) {x y : Dc} (hx : x ∈ m) (hy : y ∈ m) (e : pl (out so (left l ls)).ids y = pl (out so (left l ls)).ids x) : y = x := by
  obtain ⟨i, hi⟩ := List.mem_iff_getElem.1 hx
  obtain ⟨j, hj⟩ := List.mem_iff_getElem.1 hy
  have hp := h.up so m hm
  rw [List.pairwise_iff_getElem] at hp
  obtain ⟨i1, i2⟩ := hi
  obtain ⟨j1, j2⟩ := hj
  rcases Nat.lt_trichotomy i j with h3 | h3 | h3
  · have := hp i j i1 j1 h3
    rw [i2, j2] at this
    omega
  · subst h3
    rw [← i2, ← j2]
  · have := hp j i j1 i1 h3
    rw [i2, j2] at this
    omega
end
end G
end Go.Proofs.YtnahjaloodeicaaGreat

/-
  The contract of read: the card of a document of a segment that may be.
-/
namespace Go.Proofs.YtnahjaloodeicaaGreat
set_option maxRecDepth 100000
open Go.RowKit Go.WideMaps Go.Maps

/-- A card that is being read: its box, and the row of its words. -/
def Rx (cb : Nat) (w : World) (c : Cd) (vw : Value) (pre : List ByteArray) : Prop :=
  w.heap[cb]? = some (.cells #[.string c.id, .int .i64 c.key, vw] 40 (0, 0)) ∧ w.ownsRow (cb + 1) 9 1 vw pre.length (pre.map Value.string)

theorem Rx.step {cb g n q : Nat} {wr w1 : World} {c : Cd} {vw : Value} {pre : List ByteArray} {x : ByteArray} (h : Rx cb wr c vw pre) (ho : w1.ownsRow (cb + 1) 9 1 (.slice (some ⟨g, 0, none⟩) n q) (pre ++ [x]).length ((pre ++ [x]).map Value.string)) (hg : wr.grownBy w1 vw.ownBlock) :
    Rx cb (w1.setCell ⟨cb, 2, none⟩ (.slice (some ⟨g, 0, none⟩) n q)) c (.slice (some ⟨g, 0, none⟩) n q) (pre ++ [x]) := by
  exact ⟨bset (box_grown h.1 hg (row_ne h.2)) 2 _, row_set ho 2 _⟩

theorem own_three {w : World} {B b : Nat} {e : TypeId} {k n : Nat} {v : Value} {xs : List Value} (h : w.ownsRow B e k v n xs) (hb : b < B) (a0 a1 a2 : Value) : (((w.setCell ⟨b, 0, none⟩ a0).setCell ⟨b, 1, none⟩ a1).setCell ⟨b, 2, none⟩ a2).ownsRow B e k v n xs := by
  have key : ∀ (w : World) (j : Nat) (u : Value), w.ownsRow B e k v n xs → (w.setCell ⟨b, j, none⟩ u).ownsRow B e k v n xs := fun w j u h => own_set h (fun g hg e => by have := (h.lt g hg).1; simp only at e; omega) u
  exact key _ _ _ (key _ _ _ (key _ _ _ h))

theorem Valid.word {s : Sg} {l : List Cd} {so : Bool} (h : Valid s l so) {d k : Nat} {c : Cd} {x : ByteArray} (hc : l[d]? = some c) (hx : c.w[k]? = some x) : ∃ (i : Nat) (t : Tm), s.ts[i]? = some t ∧ t.t = x ∧ (((d : Int), (k : Int)), i) ∈ S.laid l ∧ i < 200 := by
  have hm : x ∈ S.words l := S.mem_words.2 ⟨c, List.mem_of_getElem? hc, List.mem_of_getElem? hx⟩
  obtain ⟨i, hi, e⟩ := List.mem_iff_getElem.1 hm
  have hw : (S.words l)[i]? = some x := by rw [List.getElem?_eq_getElem hi, e]
  refine ⟨i, S.term l x, ?_, rfl, S.mem_laid.2 ⟨d, k, c, x, rfl, hc, hx, hw⟩, by have := h.2.few; omega⟩
  rw [h.1]
  show ((S.words l).map (S.term l))[i]? = _
  rw [List.getElem?_map, hw]
  rfl

set_option maxRecDepth 100000 in
set_option maxHeartbeats 8000000 in
theorem sread_any (ia ka lna ta : Option Addr) (ic kc lnc tc : Nat) (s : Sg) (so : Bool) (l : List Cd) (b n : Nat) (M : DataW Unit) (d : Nat) (c : Cd) (w : World) (h : Sv w (.slice ia s.ids.length ic) (.slice ka s.keys.length kc) (.slice lna s.lens.length lnc) (.slice ta s.ts.length tc) s) (hV : Valid s l so) (hM : Map8 w b n M) (hT : Tel M (S.laid l)) (hc : l[d]? = some c) :
    Calls Tryz.prog 28 #[.agg #[.slice ia s.ids.length ic, .slice ka s.keys.length kc, .slice lna s.lens.length lnc, .slice ta s.ts.length tc, .bool so], .map (some b), .int .i64 (d : Int)] w fun e w' => ∃ vw, e = .returned (.agg #[.string c.id, .int .i64 c.key, vw]) ∧ w'.ownsRow w.heap.size 9 1 vw c.w.length (c.w.map Value.string) ∧ Below w.heap.size w w' := by
  obtain ⟨i9, hi9, hz90, hz91, hz92⟩ := info_parts Tryz.infoS
  obtain ⟨n1, n2, n3, n4⟩ := hV.lens
  have h64 := hV.2.len
  have hd := (List.getElem?_eq_some_iff.1 hc).1
  obtain ⟨a1, a2, a3⟩ := hV.at hc
  have hcw := (S.fits_w (hV.2.fit c (List.mem_of_getElem? hc))).1
  obtain ⟨W, hW⟩ : ∃ W, W = (w.alloc (.cells #[.slice ia s.ids.length ic, .slice ka s.keys.length kc, .slice lna s.lens.length lnc, .slice ta s.ts.length tc, .bool so] 30)).alloc (.cells #[.string ⟨#[]⟩, .int .i64 0, .slice none 0 0] 40) := ⟨_, rfl⟩
  have BW : Below w.heap.size w W := by rw [hW]; exact below_all (below_alloc _ _) _
  have X0 : W.heap[w.heap.size]? = some (.cells #[.slice ia s.ids.length ic, .slice ka s.keys.length kc, .slice lna s.lens.length lnc, .slice ta s.ts.length tc, .bool so] 30 (0, 0)) := by rw [hW, Below.heap_alloc _ _ _ (by simp)]; exact heap_alloc_new w _
  have R0 : W.heap[w.heap.size + 1]? = some (.cells #[.string ⟨#[]⟩, .int .i64 0, .slice none 0 0] 40 (0, 0)) := by
    rw [hW]
    have := heap_alloc_new (w.alloc (.cells #[.slice ia s.ids.length ic, .slice ka s.keys.length kc, .slice lna s.lens.length lnc, .slice ta s.ts.length tc, .bool so] 30)) (.cells #[.string ⟨#[]⟩, .int .i64 0, .slice none 0 0] 40)
    simpa using this
  have HV := h.below BW
  have HW := hide hW
  have MW := map_keep hM (BW.block _ hM.lt)
  have CH := head_any ia ka lna ta ic kc lnc tc s so d _ rfl _ _ W HV a1 a2
  have HVA := hide hV
  have HTE := hide hT
  have HC := hide hc
  have p3 : (d : Int) < (s.lens.length : Int) := by omega
  have hd3 : d < s.lens.length := by omega
  clear hW hV hT hc hM h n1 n2 n3 n4
  go_enter Tryz.func28, Tryz.ntmps28
  go_wp2_with fail
  rw [← unhide HW]
  refine CH.mono ?_
  rintro e w1 ⟨rfl, B1⟩
  have X1 := box_below X0 B1
  have R1 := box_below R0 B1
  have BB := below_trans' BW B1
  have HV1 := HV.below B1
  have M1 := map_keep MW (B1.block _ MW.lt)
  have hz1 : w.heap.size + 1 < w1.heap.size := (Array.getElem?_eq_some_iff.1 R1).1
  have hz2 : w.heap.size < w1.heap.size := by omega
  obtain ⟨a', c', hv', -, -, -, ho3⟩ := HV1.2.2.1.open
  simp only [Value.slice.injEq, true_and] at hv'
  obtain ⟨rfl, rfl⟩ := hv'
  obtain ⟨b3, o3, rfl, hb3, hc3⟩ := ho3 (by omega)
  have e3 := hc3 d (by omega)
  rw [show s.lens.getD d 0 = (c.w.length : Int) by simp [List.getD, a3]] at e3
  have y2 := box_cell X1 (j := 2) rfl
  have y3 := box_cell X1 (j := 3) rfl
  have rx0 : Rx w1.heap.size (w1.alloc (.cells #[.string c.id, .int .i64 c.key, .slice none 0 0] 40)) c (.slice none 0 0) [] := ⟨heap_alloc_new w1 _, World.ownsRow_nil _ _ _ _⟩
  have HTS1 := HV1.2.2.2
  clear B1 X0 R0 CH HV MW hc3 ho3
  go_wp2
  go_loopw [17] (fun iv wr => ∃ (k : Nat) (vw : Value) (pre : List ByteArray), k ≤ c.w.length ∧ iv = .int .i64 k ∧ Hid (pre = c.w.take k) ∧ pre.length ≤ k ∧ Rx w1.heap.size wr c vw pre ∧ Below w1.heap.size w1 wr ∧ w1.heap.size < wr.heap.size) (fun iv _ => c.w.length - (intOf iv).toNat)
  case atStart => exact ⟨0, _, [], Nat.zero_le _, rfl, rfl, Nat.zero_le _, rx0, below_alloc _ _, by simp⟩
  case round =>
    clear rx0 y2 e3
    obtain ⟨k, vw, pre, hk, rfl, HP, hpl, hrx, hbel, hsz⟩ := hrel
    by_cases hlt : k < c.w.length
    · obtain ⟨x, hx⟩ : ∃ x, c.w[k]? = some x := ⟨c.w[k], List.getElem?_eq_getElem hlt⟩
      obtain ⟨i, t, ht, rfl, hlaid, hi200⟩ := (unhide HVA).word (unhide HC) hx
      have hil := (List.getElem?_eq_some_iff.1 ht).1
      obtain ⟨a', c', hv', -, -, -, hoT⟩ := (HTS1.below hbel).open
      simp only [Value.slice.injEq, true_and] at hv'
      obtain ⟨rfl, rfl⟩ := hv'
      obtain ⟨tb, off, rfl, htb, hct⟩ := hoT (by omega)
      obtain ⟨pa, pc, t0, -, -⟩ := hct i t ht
      have MR := map_keep M1 (hbel.block _ M1.lt)
      have lk := run_taken (d := (d : Int)) (k := (k : Int)) (i := i) (MR.drew) (unhide HTE) (WalkArith.wf_i64 (by omega)) (WalkArith.wf_i64 (by omega)) hlaid
      have XR := (hbel.block _ hz2).trans X1
      have s3 := box_cell XR (j := 3) rfl
      have s2 := box_cell hrx.1 (j := 2) rfl
      have f2 := bfro hrx.1 2
      have HTK := hide (take_snoc8 hx)
      have HRX := hide hrx
      have ORW := hrx.2
      have q1 : tb ≠ wr.heap.size := by omega
      have q2 : w.heap.size ≠ wr.heap.size := by omega
      have q3 : w1.heap.size ≠ wr.heap.size := by omega
      have hpl9 : pre.length < 200 := by omega
      obtain ⟨va, vc, hvw, -⟩ := id (Gl.owned hrx.2)
      subst hvw
      have hne : (Value.slice va pre.length vc).ownBlock ≠ some w1.heap.size := fun e => by have := (ORW.lt _ e).1; omega
      clear hx ht hct hoT hrx XR MR
      go_wp2
      go_region_law
        ((refine step_append_lies _ (by rfl) _ _ _ (by rfl) (w1.heap.size + 1) 9 i9 _ 1 16 Tryz.underlying26 hi9 hz90 hz91 hz92 rfl (by omega) (.slice va pre.length vc) _ _ (by rfl) ((ORW.alloc _).drew)
                  ⟨wr.heap.size, 0, none⟩ 1 1 [.string t.t] (by rfl) (by rfl) (World.news_of_block (cs := #[.string t.t]) (t := 9) (fr := (0, 0)) (heap_alloc_new wr _)) (by simp [Value.oneCell'])
                  (by omega) (by unfold maxLen; omega) (by omega) (by simp; omega) (wr.heap.size + 1) (by simp) ?_; intro g5 q5 w5 O5 g5' l5 lt5; have s5 := (g5'.cell_far ⟨w1.heap.size, 2, none⟩ (by simp; omega) (Ne.symm hne)).trans (cell_keep s2 (below_alloc wr _).drew); have f5 := (g5'.frozen_far ⟨w1.heap.size, 2, none⟩ (by simp; omega) (Ne.symm hne)).trans (frozen_keep8 f2 (below_alloc wr _).drew hsz)))
      all_goals
        have K5 : Rx w1.heap.size (w5.setCell ⟨w1.heap.size, 2, none⟩ (.slice (some ⟨g5, 0, none⟩) (pre.length + 1) q5)) c (.slice (some ⟨g5, 0, none⟩) (pre.length + 1) q5) (pre ++ [t.t]) := (unhide HRX).step (by simpa using O5) ((grown_below (below_alloc wr _).drew _).trans g5')
        have B5 : Below w1.heap.size w1 (w5.setCell ⟨w1.heap.size, 2, none⟩ (.slice (some ⟨g5, 0, none⟩) (pre.length + 1) q5)) := ((((hbel.alloc (by omega) _).drew).grown g5' (by simp; omega) (fun j hj => by have := (ORW.lt j hj).1; omega))).setCell (Nat.le_refl _) _
        have hz5 : w1.heap.size < (w5.setCell ⟨w1.heap.size, 2, none⟩ (.slice (some ⟨g5, 0, none⟩) (pre.length + 1) q5)).heap.size := by have := g5'.size; simp at this ⊢; omega
        have HK5 := hide K5
        clear K5 O5 g5' l5 lt5 s5 f5 lk s3 s2 f2 ORW HRX t0
        go_wp2
        go_roundw
        case rel => exact ⟨k + 1, _, pre ++ [t.t], by omega, by go_num, by (show _ = _; rw [unhide HTK, unhide HP]), by simp; omega, unhide HK5, B5, hz5⟩
        case measure => simp [intOf]; omega
    · have hpre : pre = c.w := by rw [unhide HP, List.take_of_length_le (by omega)]
      subst hpre
      have RR := (hbel.block _ hz1).trans R1
      obtain ⟨va, vc, hvw, -⟩ := id (Gl.owned hrx.2)
      subst hvw
      have s0 := box_cell hrx.1 (j := 0) rfl
      have s1 := box_cell hrx.1 (j := 1) rfl
      have s2 := box_cell hrx.1 (j := 2) rfl
      have r0 := box_cell RR (j := 0) rfl
      have r1 := box_cell RR (j := 1) rfl
      have r2 := box_cell RR (j := 2) rfl
      have f0 := bfro RR 0
      have f1 := bfro RR 1
      have f2 := bfro RR 2
      have OE := hide (own_three (own_mono hrx.2 (B' := w.heap.size + 2) (by omega)) (b := w.heap.size + 1) (by omega) (.string c.id) (.int .i64 c.key) (.slice va c.w.length vc))
      have BE := set3_below (b := w.heap.size + 1) (below_trans' BB hbel) (by omega) (.string c.id) (.int .i64 c.key) (.slice va c.w.length vc)
      clear hrx RR HP
      go_wp2
      exact bodyPost_ret (v := .agg #[.string c.id, .int .i64 c.key, .slice va c.w.length vc]) (by simp [results, Tryz.results28, go_sem, r0, r1, r2]) rfl ⟨_, rfl, own_mono (unhide OE) (by omega), BE⟩
end Go.Proofs.YtnahjaloodeicaaGreat

/-
  The contracts of May, Cards, Card, Words and Find, at a segment that may be.
-/
namespace Go.Proofs.YtnahjaloodeicaaGreat
set_option maxRecDepth 100000
open Go.RowKit Go.WideMaps Go.Maps

set_option maxRecDepth 100000 in
set_option maxHeartbeats 4000000 in
theorem segMay_any (ia ka lna ta : Option Addr) (ic kc lnc tc : Nat) (s : Sg) (so : Bool) (l : List Cd) (w : World) (h : Sv w (.slice ia s.ids.length ic) (.slice ka s.keys.length kc) (.slice lna s.lens.length lnc) (.slice ta s.ts.length tc) s) (hV : Valid s l so) :
    Calls Tryz.prog 12 #[.agg #[.slice ia s.ids.length ic, .slice ka s.keys.length kc, .slice lna s.lens.length lnc, .slice ta s.ts.length tc, .bool so]] w fun e w' => e = .returned (.bool true) ∧ Below w.heap.size w w' := by
  obtain ⟨W, hW⟩ : ∃ W, W = w.alloc (.cells #[.slice ia s.ids.length ic, .slice ka s.keys.length kc, .slice lna s.lens.length lnc, .slice ta s.ts.length tc, .bool so] 30) := ⟨_, rfl⟩
  have BW : Below w.heap.size w W := by rw [hW]; exact below_alloc _ _
  have X0 : W.heap[w.heap.size]? = some (.cells #[.slice ia s.ids.length ic, .slice ka s.keys.length kc, .slice lna s.lens.length lnc, .slice ta s.ts.length tc, .bool so] 30 (0, 0)) := by rw [hW]; exact heap_alloc_new w _
  have HV := h.below BW
  have HW := hide hW
  clear hW
  have C := look_any ia ka lna ta ic kc lnc tc s so l W HV hV
  clear hV h HV X0
  go_enter Tryz.func12, Tryz.ntmps12
  go_wp2_with fail
  rw [← unhide HW]
  refine C.mono ?_
  rintro e w1 ⟨b, M, rfl, -, -, B1⟩
  have BB := below_trans' BW B1
  go_wp2
  go_ret
  exact ⟨rfl, BB⟩

/-- A row of cards of the call's own, the words of each in a row of its own. -/
def CW (B : Nat) (w : World) (ps : List (Cd × Pts)) : Prop := ∀ p ∈ ps, w.ownsRow B 9 1 (sv p.2) p.1.w.length (p.1.w.map Value.string)

set_option maxRecDepth 100000 in
set_option maxHeartbeats 4000000 in
theorem cards_any (ia ka lna ta : Option Addr) (ic kc lnc tc : Nat) (s : Sg) (so : Bool) (l : List Cd) (w : World) (h : Sv w (.slice ia s.ids.length ic) (.slice ka s.keys.length kc) (.slice lna s.lens.length lnc) (.slice ta s.ts.length tc) s) (hV : Valid s l so) :
    Calls Tryz.prog 48 #[.agg #[.slice ia s.ids.length ic, .slice ka s.keys.length kc, .slice lna s.lens.length lnc, .slice ta s.ts.length tc, .bool so]] w fun e w' => ∃ v', e = .returned v' ∧ Cs w' v' l ∧ Below w.heap.size w w' := by
  obtain ⟨i0, hi, hz0, hz1, hz2⟩ := info_parts Tryz.infoC
  obtain ⟨W, hW⟩ : ∃ W, W = w.alloc (.cells #[.slice ia s.ids.length ic, .slice ka s.keys.length kc, .slice lna s.lens.length lnc, .slice ta s.ts.length tc, .bool so] 30) := ⟨_, rfl⟩
  have BW : Below w.heap.size w W := by rw [hW]; exact below_alloc _ _
  have X0 : W.heap[w.heap.size]? = some (.cells #[.slice ia s.ids.length ic, .slice ka s.keys.length kc, .slice lna s.lens.length lnc, .slice ta s.ts.length tc, .bool so] 30 (0, 0)) := by rw [hW]; exact heap_alloc_new w _
  have HV := h.below BW
  have HW := hide hW
  clear hW
  have C := look_any ia ka lna ta ic kc lnc tc s so l W HV hV
  have HVA := hide hV
  have N1 := hide hV.lens.1
  have h64 := hV.2.len
  have hn64 : s.ids.length ≤ 64 := by have := unhide N1; omega
  clear hV h
  go_enter Tryz.func48, Tryz.ntmps48
  go_wp2_with fail
  rw [← unhide HW]
  refine C.mono ?_
  rintro e w1 ⟨b, M, rfl, M1, T1, B1⟩
  have BB := below_trans' BW B1
  have X1 := box_below X0 B1
  have HV1 := HV.below B1
  have HT1 := hide T1
  have hz1' : w.heap.size < w1.heap.size := (Array.getElem?_eq_some_iff.1 X1).1
  have x0 := box_cell X1 (j := 0) rfl
  have x1 := box_cell X1 (j := 1) rfl
  have x2 := box_cell X1 (j := 2) rfl
  have x3 := box_cell X1 (j := 3) rfl
  have x4 := box_cell X1 (j := 4) rfl
  clear C HV X0 B1 T1
  go_wp2
  go_loopw [5, 17] (fun ov iv wr => ∃ (k : Nat) (ps : List (Cd × Pts)), k ≤ s.ids.length ∧ iv = .int .i64 k ∧ Hid (ps.map (·.1) = l.take k) ∧ ps.length ≤ k ∧ wr.ownsRow w1.heap.size 40 3 ov ps.length (ps.flatMap encC) ∧ CW w1.heap.size wr ps ∧ Below w1.heap.size w1 wr) (fun _ iv _ => s.ids.length - (intOf iv).toNat)
  case atStart => exact ⟨0, [], Nat.zero_le _, rfl, rfl, Nat.zero_le _, World.ownsRow_nil _ _ _ _, (fun p hp => by cases hp), Below.refl _ _⟩
  case round =>
    clear x0 x1 x2 x3 x4
    obtain ⟨k, ps, hk, rfl, HP, hpl, hown, hcw, hbel⟩ := hrel
    by_cases hlt : k < s.ids.length
    · obtain ⟨c, hx⟩ : ∃ c, l[k]? = some c := ⟨l[k]'(by have := unhide N1; omega), List.getElem?_eq_getElem _⟩
      have XR := box_below X1 hbel
      have CR := sread_any ia ka lna ta ic kc lnc tc s so l b _ M k c wr (HV1.below hbel) (unhide HVA) (map_keep M1 (hbel.block _ M1.lt)) (unhide HT1) hx
      have HTS := hide (take_snoc8 hx)
      have hbs := hbel.size
      have x0 := box_cell XR (j := 0) rfl
      have x1 := box_cell XR (j := 1) rfl
      have x2 := box_cell XR (j := 2) rfl
      have x3 := box_cell XR (j := 3) rfl
      have x4 := box_cell XR (j := 4) rfl
      clear XR hx
      go_wp2_with fail
      refine CR.mono ?_
      rintro e w2 ⟨vw, rfl, O2, B2⟩
      obtain ⟨va, vc, hvw, -⟩ := id (Gl.owned O2)
      subst hvw
      have OC := own_below hown B2
      have CW2 : CW w1.heap.size w2 ps := fun p hp => own_below (hcw p hp) B2
      have BB2 := hbel.trans (B2.mono hbs)
      have hbs2 := B2.size
      clear CR hown hcw hbel B2 x0 x1 x2 x3 x4
      go_wp2_with (at_builtin; refine append_oneF rfl _ _ 35 rfl Tryz.underlying35 hi hz0 hz1 hz2 rfl (by decide) encC_len encC_one (pre := ps) (c, (va, c.w.length, vc)) rfl rfl rfl (by simp) OC (by omega) (by omega) (by decide) ?_; intro g5 q5 w5 O5 g5' l5)
      have B5 := BB2.grown g5' (by omega) (fun j hj => (OC.lt j hj).1)
      have CW5 : CW w1.heap.size w5 (ps ++ [(c, (va, c.w.length, vc))]) := fun p hp => by
        rcases List.mem_append.1 hp with hp | hp
        · exact World.ownsRow.kept (CW2 p hp) g5' (own_apart (CW2 p hp) OC (by decide))
        · simp only [List.mem_singleton] at hp
          subst hp
          exact World.ownsRow.kept (own_mono O2 hbs) g5' (own_apart (own_mono O2 hbs) OC (by decide))
      have HCW := hide CW5
      clear g5' l5 OC CW2 CW5 O2
      go_roundw
      case rel => exact ⟨k + 1, ps ++ [(c, (va, c.w.length, vc))], by omega, by go_num, by (show _ = _; rw [unhide HTS, List.map_append, unhide HP]; rfl), by simp; omega, O5, unhide HCW, B5⟩
      case measure => simp [intOf]; omega
    · have hps : ps.map (·.1) = l := by rw [unhide HP, List.take_of_length_le (by have := unhide N1; omega)]
      have HC := Cs.own hown (fun p hp => Gl.owned (hcw p hp))
      rw [hps] at HC
      clear HP
      go_wp2
      go_ret
      exact ⟨_, rfl, HC, below_trans' BB hbel⟩

set_option maxRecDepth 100000 in
set_option maxHeartbeats 4000000 in
theorem card8_any (ia ka lna ta : Option Addr) (ic kc lnc tc : Nat) (s : Sg) (so : Bool) (l : List Cd) (d : Nat) (c : Cd) (w : World) (h : Sv w (.slice ia s.ids.length ic) (.slice ka s.keys.length kc) (.slice lna s.lens.length lnc) (.slice ta s.ts.length tc) s) (hV : Valid s l so) (hc : l[d]? = some c) :
    Calls Tryz.prog 13 #[.agg #[.slice ia s.ids.length ic, .slice ka s.keys.length kc, .slice lna s.lens.length lnc, .slice ta s.ts.length tc, .bool so], .int .i64 (d : Int)] w fun e w' => ∃ vw, e = .returned (.tuple #[.agg #[.string c.id, .int .i64 c.key, vw], .bool true]) ∧ w'.ownsRow w.heap.size 9 1 vw c.w.length (c.w.map Value.string) ∧ Below w.heap.size w w' := by
  obtain ⟨W, hW⟩ : ∃ W, W = (w.alloc (.cells #[.slice ia s.ids.length ic, .slice ka s.keys.length kc, .slice lna s.lens.length lnc, .slice ta s.ts.length tc, .bool so] 30)).alloc (.cells #[.string ⟨#[]⟩, .int .i64 0, .slice none 0 0] 40) := ⟨_, rfl⟩
  have BW : Below w.heap.size w W := by rw [hW]; exact below_all (below_alloc _ _) _
  have X0 : W.heap[w.heap.size]? = some (.cells #[.slice ia s.ids.length ic, .slice ka s.keys.length kc, .slice lna s.lens.length lnc, .slice ta s.ts.length tc, .bool so] 30 (0, 0)) := by rw [hW, Below.heap_alloc _ _ _ (by simp)]; exact heap_alloc_new w _
  have R0 : W.heap[w.heap.size + 1]? = some (.cells #[.string ⟨#[]⟩, .int .i64 0, .slice none 0 0] 40 (0, 0)) := by
    rw [hW]
    have := heap_alloc_new (w.alloc (.cells #[.slice ia s.ids.length ic, .slice ka s.keys.length kc, .slice lna s.lens.length lnc, .slice ta s.ts.length tc, .bool so] 30)) (.cells #[.string ⟨#[]⟩, .int .i64 0, .slice none 0 0] 40)
    simpa using this
  have HV := h.below BW
  have C := look_any ia ka lna ta ic kc lnc tc s so l W HV hV
  have hd := (List.getElem?_eq_some_iff.1 hc).1
  have p1 : ¬ (d : Int) < 0 := by omega
  have p2 : ¬ (s.ids.length : Int) ≤ (d : Int) := by have := hV.lens.1; omega
  have HW := hide hW
  have HVA := hide hV
  have HC := hide hc
  clear hW hV h hc
  go_enter Tryz.func13, Tryz.ntmps13
  go_wp2_with fail
  rw [← unhide HW]
  refine C.mono ?_
  rintro e w1 ⟨b, M, rfl, M1, T1, B1⟩
  have BB := below_trans' BW B1
  have X1 := box_below X0 B1
  have R1 := box_below R0 B1
  have HV1 := HV.below B1
  have CR := sread_any ia ka lna ta ic kc lnc tc s so l b _ M d c w1 HV1 (unhide HVA) M1 T1 (unhide HC)
  have hz1 : w.heap.size + 1 < w1.heap.size := (Array.getElem?_eq_some_iff.1 R1).1
  have x0 := box_cell X1 (j := 0) rfl
  have x1 := box_cell X1 (j := 1) rfl
  have x2 := box_cell X1 (j := 2) rfl
  have x3 := box_cell X1 (j := 3) rfl
  have x4 := box_cell X1 (j := 4) rfl
  clear C HV X0 R0 B1 T1 M1 HV1 X1
  go_wp2_with (go_at_call 28; refine CR.mono ?_; rintro e w2 ⟨vw, rfl, O2, B2⟩; obtain ⟨va, vc, hvw, -⟩ := id (Gl.owned O2); subst hvw; have RR := box_below R1 B2; have r0 := box_cell RR (j := 0) rfl; have r1 := box_cell RR (j := 1) rfl; have r2 := box_cell RR (j := 2) rfl; have f0 := bfro RR 0; have f1 := bfro RR 1; have f2 := bfro RR 2)
  exact bodyPost_ret (v := .tuple #[.agg #[.string c.id, .int .i64 c.key, .slice va c.w.length vc], .bool true]) (by simp [results, Tryz.results13, go_sem, r0, r1, r2]) rfl ⟨_, rfl, own_mono (own_three O2 (b := w.heap.size + 1) (by omega) _ _ _) (by omega), set3_below (b := w.heap.size + 1) (below_trans' BB B2) (by omega) _ _ _⟩

set_option maxRecDepth 100000 in
set_option maxHeartbeats 4000000 in
theorem index_any (v : Value) (ids : List ByteArray) (x : ByteArray) (d : Nat) (w : World) (h : Gl .string w v ids) (hx : ids[d]? = some x) (hf : ∀ j y, j < d → ids[j]? = some y → y ≠ x) :
    Calls Tryz.prog 29 #[v, .string x] w fun e w' => e = .returned (.int .i64 (d : Int)) ∧ w' = w := by
  obtain ⟨a, cap, rfl, hl, hm, hna, ho⟩ := h.open
  have hd := (List.getElem?_eq_some_iff.1 hx).1
  have HF := hide hf
  have HX := hide hx
  clear h hf hx
  go_enter Tryz.func29, Tryz.ntmps29
  go_wp2
  go_loop [8] (fun iv => ∃ k : Nat, k ≤ d ∧ iv = .int .i64 k) (fun iv => ids.length - (intOf iv).toNat)
  case atStart => exact ⟨0, Nat.zero_le _, rfl⟩
  case round =>
    obtain ⟨k, hk, rfl⟩ := hrel
    have hlt : k < ids.length := by omega
    obtain ⟨b, off, rfl, hb, hc⟩ := ho (by omega)
    obtain ⟨y, hy⟩ : ∃ y, ids[k]? = some y := ⟨ids[k], List.getElem?_eq_getElem hlt⟩
    have e1 := hc k y hy
    have hq := @K.eq_to x y
    by_cases he : k = d
    · have exy : x = y := by subst he; have := unhide HX; rw [hy] at this; exact (Option.some.inj this).symm
      have hq' : (x.toList == y.toList) = true := by rw [hq]; simpa using exy
      have HE := hide he
      clear hc ho hy hq exy he
      go_wp2
      go_ret
      exact ⟨by rw [unhide HE]; rfl, rfl⟩
    · have hq' : (x.toList == y.toList) = false := by rw [hq]; simpa using (unhide HF k y (by omega) hy).symm
      have HE := hide he
      clear hc ho hy hq he
      go_wp2
      go_round
      case rel => exact ⟨k + 1, by have := unhide HE; omega, by go_num⟩
      case measure => simp [intOf]; omega

set_option maxRecDepth 100000 in
set_option maxHeartbeats 4000000 in
theorem find8_any (ia ka lna ta : Option Addr) (ic kc lnc tc : Nat) (s : Sg) (so : Bool) (l : List Cd) (d : Nat) (c : Cd) (w : World) (h : Sv w (.slice ia s.ids.length ic) (.slice ka s.keys.length kc) (.slice lna s.lens.length lnc) (.slice ta s.ts.length tc) s) (hV : Valid s l so) (hc : l[d]? = some c) :
    Calls Tryz.prog 15 #[.agg #[.slice ia s.ids.length ic, .slice ka s.keys.length kc, .slice lna s.lens.length lnc, .slice ta s.ts.length tc, .bool so], .string c.id] w fun e w' => e = .returned (.int .i64 (d : Int)) ∧ Below w.heap.size w w' := by
  obtain ⟨W, hW⟩ : ∃ W, W = w.alloc (.cells #[.slice ia s.ids.length ic, .slice ka s.keys.length kc, .slice lna s.lens.length lnc, .slice ta s.ts.length tc, .bool so] 30) := ⟨_, rfl⟩
  have BW : Below w.heap.size w W := by rw [hW]; exact below_alloc _ _
  have X0 : W.heap[w.heap.size]? = some (.cells #[.slice ia s.ids.length ic, .slice ka s.keys.length kc, .slice lna s.lens.length lnc, .slice ta s.ts.length tc, .bool so] 30 (0, 0)) := by rw [hW]; exact heap_alloc_new w _
  have HV := h.below BW
  have HW := hide hW
  clear hW
  have C := segMay_any ia ka lna ta ic kc lnc tc s so l W HV hV
  have hx := (hV.at hc).1
  have hf : ∀ j y, j < d → s.ids[j]? = some y → y ≠ c.id := by
    intro j y hj hy e
    rw [hV.1] at hy
    change (l.map (·.id))[j]? = some y at hy
    rw [List.getElem?_map] at hy
    obtain ⟨c', hc', rfl⟩ := Option.map_eq_some_iff.1 hy
    obtain ⟨i1, r1⟩ := List.getElem?_eq_some_iff.1 hc'
    obtain ⟨i2, r2⟩ := List.getElem?_eq_some_iff.1 hc
    have := List.pairwise_iff_getElem.1 hV.2.unl j d i1 i2 hj
    rw [r1, r2] at this
    exact this e
  clear hV h hc
  go_enter Tryz.func15, Tryz.ntmps15
  go_wp2_with fail
  rw [← unhide HW]
  refine C.mono ?_
  rintro e w1 ⟨rfl, B1⟩
  have BB := below_trans' BW B1
  have x0 := box_cell (box_below X0 B1) (j := 0) rfl
  have CI := index_any _ s.ids c.id d w1 (HV.below B1).1 hx hf
  clear C HV X0 B1 hx hf
  go_wp2_with (go_at_call 29; refine CI.mono ?_; rintro e w2 ⟨rfl, rfl⟩)
  go_ret
  exact ⟨rfl, BB⟩
end Go.Proofs.YtnahjaloodeicaaGreat

/-
  The contract of the statements' own 'FewSeg'.
-/
namespace Go.Proofs.YtnahjaloodeicaaGreat
set_option maxRecDepth 100000
open Go.RowKit

def Q.few (L : List Pt) : Bool := decide (L.length ≤ 70) && L.all (fun p => decide (p.a.length ≤ 130))

set_option maxHeartbeats 1000000 in
theorem pfew_any (v : Value) (L : List Pt) (w : World) (h : Pl w v L) :
    Calls Tryz.prog 35 #[v] w fun e w' => e = .returned (.bool (Q.few L)) ∧ w' = w := by
  obtain ⟨a, cap, rfl, hl, hm, hna, ho⟩ := h.open
  clear h
  by_cases h70 : 70 < L.length
  · have HF := hide (show Q.few L = false by simp [Q.few]; omega)
    go_enter Tryz.func35, Tryz.ntmps35
    go_wp2
    go_ret
    exact ⟨by rw [unhide HF]; rfl, rfl⟩
  · go_enter Tryz.func35, Tryz.ntmps35
    go_wp2
    go_loop [3] (fun iv => ∃ k : Nat, k ≤ L.length ∧ iv = .int .i64 k ∧ ∀ i p, i < k → L[i]? = some p → p.a.length ≤ 130) (fun iv => L.length - (intOf iv).toNat)
    case atStart => exact ⟨0, Nat.zero_le _, rfl, fun i y hi _ => by omega⟩
    case round =>
      obtain ⟨k, hk, rfl, hall⟩ := hrel
      have HA := hide hall
      clear hall
      by_cases hlt : k < L.length
      · obtain ⟨b, off, rfl, hb, hc⟩ := ho (by omega)
        obtain ⟨p, hp⟩ : ∃ p, L[k]? = some p := ⟨L[k], List.getElem?_eq_getElem hlt⟩
        obtain ⟨da, dc, -, c1, -⟩ := hc k p hp
        have HP := hide hp
        obtain ⟨n, hn⟩ : ∃ n, p.a.length = n := ⟨_, rfl⟩
        rw [hn] at c1
        have HN := hide hn
        clear ho hc hp hn
        by_cases h1 : 130 < n
        · have HF := hide (show Q.few L = false by
            rw [← Bool.not_eq_true]
            intro h
            simp only [Q.few, Bool.and_eq_true, decide_eq_true_eq, List.all_eq_true] at h
            have := h.2 p (List.mem_of_getElem? (unhide HP))
            rw [unhide HN] at this
            omega)
          go_wp2
          go_ret
          exact ⟨by rw [unhide HF]; rfl, rfl⟩
        · go_wp2
          go_round
          case rel =>
            refine ⟨k + 1, by omega, by go_num, fun i y hi hy => ?_⟩
            by_cases e : i = k
            · subst e
              rw [unhide HP] at hy
              simp at hy
              subst hy
              rw [unhide HN]
              omega
            · exact unhide HA i y (by omega) hy
          case measure => simp [intOf]; omega
      · have HF := hide (show Q.few L = true by
          simp only [Q.few, Bool.and_eq_true, decide_eq_true_eq, List.all_eq_true]
          refine ⟨by omega, fun p hp => ?_⟩
          obtain ⟨i, hi⟩ := List.mem_iff_getElem?.1 hp
          exact unhide HA i p (by have := (List.getElem?_eq_some_iff.1 hi).1; omega) hi)
        go_wp2
        go_ret
        exact ⟨by rw [unhide HF]; rfl, rfl⟩

def FewS (s : Sg) : Prop := (∀ x ∈ s.ids, x.size ≤ 40) ∧ s.ts.length ≤ 210
def FewSEnd (w : World) (s : Sg) (e : Ending) (w' : World) : Prop := ∃ r : Bool, e = .returned (.bool r) ∧ (r = true → FewS s) ∧ Below w.heap.size w w'

set_option maxRecDepth 100000 in
set_option maxHeartbeats 4000000 in
theorem fewSeg_any (ia ka lna ta : Option Addr) (ic kc lnc tc : Nat) (s : Sg) (so : Bool) (w : World) (h : Sv w (.slice ia s.ids.length ic) (.slice ka s.keys.length kc) (.slice lna s.lens.length lnc) (.slice ta s.ts.length tc) s) :
    Calls Tryz.prog 18 #[.agg #[.slice ia s.ids.length ic, .slice ka s.keys.length kc, .slice lna s.lens.length lnc, .slice ta s.ts.length tc, .bool so]] w (FewSEnd w s) := by
  obtain ⟨W, hW⟩ : ∃ W, W = w.alloc (.cells #[.slice ia s.ids.length ic, .slice ka s.keys.length kc, .slice lna s.lens.length lnc, .slice ta s.ts.length tc, .bool so] 30) := ⟨_, rfl⟩
  have BW : Below w.heap.size w W := by rw [hW]; exact below_alloc _ _
  have X0 : W.heap[w.heap.size]? = some (.cells #[.slice ia s.ids.length ic, .slice ka s.keys.length kc, .slice lna s.lens.length lnc, .slice ta s.ts.length tc, .bool so] 30 (0, 0)) := by rw [hW]; exact heap_alloc_new w _
  have HV := h.below BW
  have HW := hide hW
  clear hW
  by_cases n1 : 70 < s.ids.length
  · clear HV h
    have q1 : (70 : Int) < (s.ids.length : Int) := by omega
    go_enter Tryz.func18, Tryz.ntmps18
    go_wp2
    go_ret
    exact ⟨false, rfl, (fun h => by cases h), (by first | exact BW | (rw [← unhide HW]; exact BW))⟩
  have q1 : ¬ (70 : Int) < (s.ids.length : Int) := by omega
  by_cases n2 : 70 < s.keys.length
  · clear HV h
    have q2 : (70 : Int) < (s.keys.length : Int) := by omega
    go_enter Tryz.func18, Tryz.ntmps18
    go_wp2
    go_ret
    exact ⟨false, rfl, (fun h => by cases h), (by first | exact BW | (rw [← unhide HW]; exact BW))⟩
  have q2 : ¬ (70 : Int) < (s.keys.length : Int) := by omega
  by_cases n3 : 70 < s.lens.length
  · clear HV h
    have q3 : (70 : Int) < (s.lens.length : Int) := by omega
    go_enter Tryz.func18, Tryz.ntmps18
    go_wp2
    go_ret
    exact ⟨false, rfl, (fun h => by cases h), (by first | exact BW | (rw [← unhide HW]; exact BW))⟩
  have q3 : ¬ (70 : Int) < (s.lens.length : Int) := by omega
  by_cases n4 : 210 < s.ts.length
  · clear HV h
    have q4 : (210 : Int) < (s.ts.length : Int) := by omega
    go_enter Tryz.func18, Tryz.ntmps18
    go_wp2
    go_ret
    exact ⟨false, rfl, (fun h => by cases h), (by first | exact BW | (rw [← unhide HW]; exact BW))⟩
  have q4 : ¬ (210 : Int) < (s.ts.length : Int) := by omega
  have x0 : W.cell? ⟨w.heap.size, 0, none⟩ = some (.slice ia s.ids.length ic) := box_cell X0 rfl
  have x3 : W.cell? ⟨w.heap.size, 3, none⟩ = some (.slice ta s.ts.length tc) := box_cell X0 rfl
  obtain ⟨a', c', hv', -, -, -, ho1⟩ := HV.1.open
  simp only [Value.slice.injEq, true_and] at hv'
  obtain ⟨rfl, rfl⟩ := hv'
  obtain ⟨a', c', hv', -, -, -, ho2⟩ := HV.2.2.2.open
  simp only [Value.slice.injEq, true_and] at hv'
  obtain ⟨rfl, rfl⟩ := hv'
  clear h HV X0
  go_enter Tryz.func18, Tryz.ntmps18
  go_wp2
  rw [← unhide HW]
  go_loop [3] (fun iv => ∃ k : Nat, k ≤ s.ids.length ∧ iv = .int .i64 k ∧ Hid (∀ (j : Nat) (x : ByteArray), j < k → s.ids[j]? = some x → x.size ≤ 40)) (fun iv => s.ids.length - (intOf iv).toNat)
  case atStart => exact ⟨0, Nat.zero_le _, rfl, hide (fun j x hj => by omega)⟩
  case round =>
    obtain ⟨k, hk, rfl, HA⟩ := hrel
    by_cases hlt : k < s.ids.length
    · obtain ⟨b, off, rfl, hb, hc⟩ := ho1 (by omega)
      obtain ⟨x, hx⟩ : ∃ x, s.ids[k]? = some x := ⟨s.ids[k], List.getElem?_eq_getElem hlt⟩
      have c0 := hc k x hx
      have HX := hide hx
      clear hc ho1 hx
      by_cases h1 : 40 < x.size
      · have r1 : (40 : Int) < (x.size : Int) := by omega
        go_wp2
        go_ret
        exact ⟨false, rfl, (fun h => by cases h), BW⟩
      · have r1 : ¬ (40 : Int) < (x.size : Int) := by omega
        go_wp2
        go_round
        case rel =>
          refine ⟨k + 1, by omega, by go_num, hide (fun j y hj hy => ?_)⟩
          by_cases e : j = k
          · subst e
            rw [unhide HX] at hy
            cases hy
            omega
          · exact unhide HA j y (by omega) hy
        case measure => simp [intOf]; omega
    · have HF : Hid (FewS s) := hide ⟨fun x hx => by
        obtain ⟨j, hj⟩ := List.mem_iff_getElem?.1 hx
        exact unhide HA j x (by have := (List.getElem?_eq_some_iff.1 hj).1; omega) hj, by omega⟩
      clear ho1
      go_wp2
      go_loop [4] (fun iv => ∃ k : Nat, k ≤ s.ts.length ∧ iv = .int .i64 k) (fun iv => s.ts.length - (intOf iv).toNat)
      case atStart => exact ⟨0, Nat.zero_le _, rfl⟩
      case round =>
        obtain ⟨j, hj, rfl⟩ := hrel
        by_cases hlt2 : j < s.ts.length
        · obtain ⟨b, off, rfl, hb, hc⟩ := ho2 (by omega)
          obtain ⟨t, hx⟩ : ∃ t, s.ts[j]? = some t := ⟨s.ts[j], List.getElem?_eq_getElem hlt2⟩
          obtain ⟨pa, pc, c0, c1, P2⟩ := hc j t hx
          have CF := pfew_any _ t.p W P2
          obtain ⟨fw, hfw⟩ : ∃ fw, Q.few t.p = fw := ⟨_, rfl⟩
          rw [hfw] at CF
          have q9 : (j : Int) < (s.ts.length : Int) := by omega
          clear hc hx hfw ho2
          go_wp2_with fail
          refine CF.mono ?_
          rintro e w9 ⟨rfl, hw9⟩
          rw [hw9]
          clear hw9 w9 CF
          cases fw with
          | false =>
            go_wp2
            go_ret
            exact ⟨false, rfl, (fun h => by cases h), BW⟩
          | true =>
            by_cases h1 : 40 < t.t.size
            · have r1 : (40 : Int) < (t.t.size : Int) := by omega
              go_wp2
              go_ret
              exact ⟨false, rfl, (fun h => by cases h), BW⟩
            · have r1 : ¬ (40 : Int) < (t.t.size : Int) := by omega
              go_wp2
              go_round
              case rel => exact ⟨j + 1, by omega, by go_num⟩
              case measure => simp [intOf]; omega
        · go_wp2
          go_ret
          exact ⟨true, rfl, (fun _ => unhide HF), BW⟩
end Go.Proofs.YtnahjaloodeicaaGreat

/-
  The contract of Has, at a segment that may be.
-/
namespace Go.Proofs.YtnahjaloodeicaaGreat
set_option maxRecDepth 100000
open Go.RowKit

theorem find_some {l : List Cd} {so : Bool} (h : S.Ok l so) {t : ByteArray} (ht : t ∈ S.words l) : D.findR (S.words l) t = (D.bel (S.words l) t : Int) ∧ (S.words l)[D.bel (S.words l) t]? = some t := by
  have hb := (D.mem_bel (S.words_rise l)).1 ht
  exact ⟨by unfold D.findR; rw [if_pos ⟨h.may, hb⟩], hb⟩
theorem find_none {l : List Cd} {t : ByteArray} (ht : t ∉ S.words l) : D.findR (S.words l) t = -1 := by
  unfold D.findR
  rw [if_neg]
  rintro ⟨-, h⟩
  exact ht (List.mem_of_getElem? h)
theorem posts_nil {l : List Cd} {t : ByteArray} (ht : t ∉ S.words l) : S.posts l t = [] := by
  rw [List.eq_nil_iff_forall_not_mem]
  intro p hp
  obtain ⟨d, c, hc, -, hne⟩ := S.mem_posts.1 hp
  have : t ∉ c.w := fun h => ht (S.mem_words.2 ⟨c, List.mem_of_getElem? hc, h⟩)
  exact hne (S.places_nil.2 this)

set_option maxRecDepth 100000 in
set_option maxHeartbeats 4000000 in
theorem has_any (ia ka lna ta : Option Addr) (ic kc lnc tc : Nat) (s : Sg) (so : Bool) (l : List Cd) (t : ByteArray) (w : World) (h : Sv w (.slice ia s.ids.length ic) (.slice ka s.keys.length kc) (.slice lna s.lens.length lnc) (.slice ta s.ts.length tc) s) (hV : Valid s l so) :
    Calls Tryz.prog 22 #[.agg #[.slice ia s.ids.length ic, .slice ka s.keys.length kc, .slice lna s.lens.length lnc, .slice ta s.ts.length tc, .bool so], .string t] w fun e w' => ∃ v', e = .returned v' ∧ Pl w' v' ((S.posts l t).map S.pt) ∧ Below w.heap.size w w' := by
  obtain ⟨W, hW⟩ : ∃ W, W = w.alloc (.cells #[.slice ia s.ids.length ic, .slice ka s.keys.length kc, .slice lna s.lens.length lnc, .slice ta s.ts.length tc, .bool so] 30) := ⟨_, rfl⟩
  have BW : Below w.heap.size w W := by rw [hW]; exact below_alloc _ _
  have X0 : W.heap[w.heap.size]? = some (.cells #[.slice ia s.ids.length ic, .slice ka s.keys.length kc, .slice lna s.lens.length lnc, .slice ta s.ts.length tc, .bool so] 30 (0, 0)) := by rw [hW]; exact heap_alloc_new w _
  have HV := h.below BW
  have HW := hide hW
  clear hW
  have C := segMay_any ia ka lna ta ic kc lnc tc s so l W HV hV
  have hwd := hide hV.words
  have h200 := hV.2.few
  have hts : s.ts.length ≤ 1000 := by have := hV.lens.2.2.2; omega
  have HVA := hide hV
  clear hV h
  by_cases ht : t ∈ S.words l
  · obtain ⟨hf1, hf2⟩ := find_some (unhide HVA).2 ht
    obtain ⟨i, hi⟩ : ∃ i, D.bel (S.words l) t = i := ⟨_, rfl⟩
    rw [hi] at hf1 hf2
    have HF := hide hf1
    have hst : s.ts[i]? = some (S.term l t) := by
      rw [(unhide HVA).1]
      show ((S.words l).map (S.term l))[i]? = _
      rw [List.getElem?_map, hf2]
      rfl
    have hil := (List.getElem?_eq_some_iff.1 hst).1
    have hi200 : i < 200 := by have := (unhide HVA).lens.2.2.2; omega
    have hq : ((i : Int) == -1) = false := by simp
    have HST := hide hst
    clear hf1 hf2 ht hi hst
    go_enter Tryz.func22, Tryz.ntmps22
    go_wp2_with fail
    rw [← unhide HW]
    refine C.mono ?_
    rintro e w1 ⟨rfl, B1⟩
    have X1 := box_below X0 B1
    have HV1 := HV.below B1
    have BB := below_trans' BW B1
    have x0 := box_cell X1 (j := 0) rfl
    have x1 := box_cell X1 (j := 1) rfl
    have x2 := box_cell X1 (j := 2) rfl
    have x3 := box_cell X1 (j := 3) rfl
    have x4 := box_cell X1 (j := 4) rfl
    clear C HV X0 B1
    go_wp2_with fail
    refine (wordsOf_any ia ka lna ta ic kc lnc tc s so _ HV1 hts).mono ?_
    rintro e w2 ⟨v2, rfl, G2, B2⟩
    rw [unhide hwd] at G2
    have X2 := box_below X1 B2
    have HV2 := HV1.below B2
    have BB2 := below_trans' BB B2
    have CF := find_any _ _ t w2 G2 _ (unhide HF)
    obtain ⟨a', c', hv', -, -, -, hoT⟩ := HV2.2.2.2.open
    simp only [Value.slice.injEq, true_and] at hv'
    obtain ⟨rfl, rfl⟩ := hv'
    obtain ⟨b, off, rfl, hb, hct⟩ := hoT (by omega)
    obtain ⟨pa, pc, -, t1, P1⟩ := hct i _ (unhide HST)
    have x3' := box_cell X2 (j := 3) rfl
    have CO := own_any _ _ w2 P1 ⟨by show ((S.posts l t).map S.pt).length ≤ 100; rw [List.length_map]; have := S.posts_len l t; have := (unhide HVA).2.len; omega, fun p hp => by
      obtain ⟨q, hq, rfl⟩ := List.mem_map.1 hp
      exact S.posts_sizes hq fun c hc => by have := (S.fits_w ((unhide HVA).2.fit c hc)).1; omega⟩
    clear X1 HV1 BB B2 G2 hct hoT x0 x1 x2 x3 x4
    go_wp2_with (first
      | (go_at_call 43; refine CF.mono ?_; rintro e w3 ⟨rfl, rfl⟩)
      | (go_at_call 45; refine CO.mono ?_; rintro e w4 ⟨v4, cs, rfl, O4, P4, -, B4⟩))
    have BE := below_trans' BB2 B4
    have PE := pl_of O4 (P4.turn fun _ _ h => Pa.sl h)
    go_ret
    exact ⟨_, rfl, PE, BE⟩
  · have HF := hide (find_none ht)
    have HN := hide (posts_nil ht)
    clear ht
    go_enter Tryz.func22, Tryz.ntmps22
    go_wp2_with fail
    rw [← unhide HW]
    refine C.mono ?_
    rintro e w1 ⟨rfl, B1⟩
    have X1 := box_below X0 B1
    have HV1 := HV.below B1
    have BB := below_trans' BW B1
    have x0 := box_cell X1 (j := 0) rfl
    have x1 := box_cell X1 (j := 1) rfl
    have x2 := box_cell X1 (j := 2) rfl
    have x3 := box_cell X1 (j := 3) rfl
    have x4 := box_cell X1 (j := 4) rfl
    clear C HV X0 B1
    go_wp2_with fail
    refine (wordsOf_any ia ka lna ta ic kc lnc tc s so _ HV1 hts).mono ?_
    rintro e w2 ⟨v2, rfl, G2, B2⟩
    rw [unhide hwd] at G2
    have BB2 := below_trans' BB B2
    have CF := find_any _ _ t w2 G2 _ (unhide HF)
    clear X1 HV1 BB B2 G2 x0 x1 x2 x3 x4
    go_wp2_with (go_at_call 43; refine CF.mono ?_; rintro e w3 ⟨rfl, rfl⟩)
    go_ret
    exact ⟨_, rfl, by rw [unhide HN]; exact Pl.nil _, BB2⟩
end Go.Proofs.YtnahjaloodeicaaGreat

/-
  The contract of Same, at two segments that read as one.
-/
namespace Go.Proofs.YtnahjaloodeicaaGreat
set_option maxRecDepth 100000
open Go.RowKit

set_option maxRecDepth 100000 in
set_option maxHeartbeats 4000000 in
theorem equalS_any (va vb : Value) (xs : List ByteArray) (w : World) (ha : Gl .string w va xs) (hb : Gl .string w vb xs) :
    Calls Tryz.prog 30 #[va, vb] w fun e w' => e = .returned (.bool true) ∧ Below w.heap.size w w' := by
  obtain ⟨a, ca, rfl, la, ma, na, oa⟩ := ha.open
  obtain ⟨b, cb, rfl, lb, mb, nb, ob⟩ := hb.open
  clear ha hb
  go_enter Tryz.func30, Tryz.ntmps30
  go_wp2
  go_loopw [13] (fun iv wr => ∃ k n : Nat, k ≤ xs.length ∧ iv = .int .i64 k ∧ wr = w.drewN n) (fun iv _ => xs.length - (intOf iv).toNat)
  case atStart => exact ⟨0, 0, Nat.zero_le _, rfl, rfl⟩
  case round =>
    obtain ⟨k, n, hk, rfl, rfl⟩ := hrel
    by_cases hlt : k < xs.length
    · obtain ⟨b1, o1, rfl, hb1, hc1⟩ := oa (by omega)
      obtain ⟨b2, o2, rfl, hb2, hc2⟩ := ob (by omega)
      obtain ⟨x, hx⟩ : ∃ x, xs[k]? = some x := ⟨xs[k], List.getElem?_eq_getElem hlt⟩
      have e1 := hc1 k x hx
      have e2 := hc2 k x hx
      have hq : (x.toList == x.toList) = true := by simp
      have p1 : (k : Int) < (xs.length : Int) := by omega
      clear hc1 hc2 oa ob hx
      go_wp2
      go_quiet (fail)
      go_wp2
      go_roundw
      case rel => exact ⟨k + 1, _, by omega, by go_num, rfl⟩
      case measure => simp [intOf]; omega
    · go_wp2
      go_ret
      exact ⟨rfl, below_dr (Below.refl _ _) n⟩

set_option maxRecDepth 100000 in
set_option maxHeartbeats 4000000 in
theorem same1T_any (t : Tm) (pa qa : Option Addr) (pc qc : Nat) (w : World) (hp : Pl w (.slice pa t.p.length pc) t.p) (hq : Pl w (.slice qa t.p.length qc) t.p) :
    Calls Tryz.prog 33 #[.agg #[.string t.t, .slice pa t.p.length pc], .agg #[.string t.t, .slice qa t.p.length qc]] w fun e w' => e = .returned (.bool true) ∧ Below w.heap.size w w' := by
  obtain ⟨W, hW⟩ : ∃ W, W = (w.alloc (.cells #[.string t.t, .slice pa t.p.length pc] 69)).alloc (.cells #[.string t.t, .slice qa t.p.length qc] 69) := ⟨_, rfl⟩
  have BW : Below w.heap.size w W := by rw [hW]; exact below_all (below_alloc _ _) _
  have C := same_any _ _ _ _ W (hp.below BW) (hq.below BW)
  rw [Pt.eqs_refl] at C
  have HW := hide hW
  have he : (t.t.toList == t.t.toList) = true := by simp
  clear hW hp hq
  go_enter Tryz.func33, Tryz.ntmps33
  go_wp2_with fail
  rw [← unhide HW]
  refine C.mono ?_
  rintro e w1 ⟨rfl, B1⟩
  have BB := below_trans' BW B1
  go_wp2
  go_ret
  exact ⟨rfl, BB⟩

set_option maxRecDepth 100000 in
set_option maxHeartbeats 4000000 in
theorem equalT_any (v u : Value) (L : List Tm) (w : World) (h : Ts w v L) (k : Ts w u L) :
    Calls Tryz.prog 32 #[v, u, .func (.func 33) #[] #[]] w fun e w' => e = .returned (.bool true) ∧ Below w.heap.size w w' := by
  have HV := h
  have HU := k
  obtain ⟨a, cap, rfl, hl, hm, hna, -⟩ := h.open
  obtain ⟨a2, cap2, rfl, hl2, hm2, hna2, -⟩ := k.open
  clear h k
  go_enter Tryz.func32, Tryz.ntmps32
  go_wp2
  go_loopw [17] (fun iv wr => ∃ k : Nat, k ≤ L.length ∧ iv = .int .i64 k ∧ Below w.heap.size w wr) (fun iv _ => L.length - (intOf iv).toNat)
  case atStart => exact ⟨0, Nat.zero_le _, rfl, Below.refl _ _⟩
  case round =>
    obtain ⟨k, hk, rfl, hbel⟩ := hrel
    by_cases hlt : k < L.length
    · obtain ⟨a', c', hv', -, -, -, ho⟩ := (HV.below hbel).open
      simp only [Value.slice.injEq, true_and] at hv'
      obtain ⟨rfl, rfl⟩ := hv'
      obtain ⟨b1, o1, rfl, hb1, hc1⟩ := ho (by omega)
      clear ho
      obtain ⟨a', c', hv', -, -, -, ho⟩ := (HU.below hbel).open
      simp only [Value.slice.injEq, true_and] at hv'
      obtain ⟨rfl, rfl⟩ := hv'
      obtain ⟨b2, o2, rfl, hb2, hc2⟩ := ho (by omega)
      obtain ⟨t, hx⟩ : ∃ t, L[k]? = some t := ⟨L[k], List.getElem?_eq_getElem hlt⟩
      obtain ⟨pa, pc, c0, c1, P1⟩ := hc1 k t hx
      obtain ⟨qa, qc, d0, d1, P2⟩ := hc2 k t hx
      have BW : Below wr.heap.size wr ((wr.alloc (.cells #[.string t.t, .slice pa t.p.length pc] 69)).alloc (.cells #[.string t.t, .slice qa t.p.length qc] 69)) := below_all (below_alloc _ _) _
      have C := same1T_any t pa qa pc qc _ (P1.below BW) (P2.below BW)
      have BX := below_trans' hbel BW
      clear ho hc1 hc2 hx P1 P2 BW hbel
      go_wp2_with (go_at_call 33; refine C.mono ?_; rintro e w1 ⟨rfl, B1⟩)
      have B3 := below_trans' BX B1
      clear BX B1 C
      go_roundw
      case rel => exact ⟨k + 1, by omega, by go_num, B3⟩
      case measure => simp [intOf]; omega
    · go_wp2
      go_ret
      exact ⟨rfl, hbel⟩

set_option maxRecDepth 100000 in
set_option maxHeartbeats 4000000 in
theorem segSame_any (ia ka lna ta : Option Addr) (ic kc lnc tc : Nat) (s : Sg) (so : Bool) (ia2 ka2 lna2 ta2 : Option Addr) (ic2 kc2 lnc2 tc2 : Nat) (w : World) (h : Sv w (.slice ia s.ids.length ic) (.slice ka s.keys.length kc) (.slice lna s.lens.length lnc) (.slice ta s.ts.length tc) s) (k : Sv w (.slice ia2 s.ids.length ic2) (.slice ka2 s.keys.length kc2) (.slice lna2 s.lens.length lnc2) (.slice ta2 s.ts.length tc2) s) :
    Calls Tryz.prog 17 #[.agg #[.slice ia s.ids.length ic, .slice ka s.keys.length kc, .slice lna s.lens.length lnc, .slice ta s.ts.length tc, .bool so], .agg #[.slice ia2 s.ids.length ic2, .slice ka2 s.keys.length kc2, .slice lna2 s.lens.length lnc2, .slice ta2 s.ts.length tc2, .bool so]] w fun e w' => e = .returned (.bool true) ∧ Below w.heap.size w w' := by
  obtain ⟨W, hW⟩ : ∃ W, W = (w.alloc (.cells #[.slice ia s.ids.length ic, .slice ka s.keys.length kc, .slice lna s.lens.length lnc, .slice ta s.ts.length tc, .bool so] 30)).alloc (.cells #[.slice ia2 s.ids.length ic2, .slice ka2 s.keys.length kc2, .slice lna2 s.lens.length lnc2, .slice ta2 s.ts.length tc2, .bool so] 30) := ⟨_, rfl⟩
  have BW : Below w.heap.size w W := by rw [hW]; exact below_all (below_alloc _ _) _
  have X0 : W.heap[w.heap.size]? = some (.cells #[.slice ia s.ids.length ic, .slice ka s.keys.length kc, .slice lna s.lens.length lnc, .slice ta s.ts.length tc, .bool so] 30 (0, 0)) := by rw [hW, Below.heap_alloc _ _ _ (by simp)]; exact heap_alloc_new w _
  have Y0 : W.heap[w.heap.size + 1]? = some (.cells #[.slice ia2 s.ids.length ic2, .slice ka2 s.keys.length kc2, .slice lna2 s.lens.length lnc2, .slice ta2 s.ts.length tc2, .bool so] 30 (0, 0)) := by
    rw [hW]
    have := heap_alloc_new (w.alloc (.cells #[.slice ia s.ids.length ic, .slice ka s.keys.length kc, .slice lna s.lens.length lnc, .slice ta s.ts.length tc, .bool so] 30)) (.cells #[.slice ia2 s.ids.length ic2, .slice ka2 s.keys.length kc2, .slice lna2 s.lens.length lnc2, .slice ta2 s.ts.length tc2, .bool so] 30)
    simpa using this
  have HA := h.below BW
  have HB := k.below BW
  have HW := hide hW
  have hso : (so == so) = true := by simp
  clear hW h k
  go_enter Tryz.func17, Tryz.ntmps17
  go_wp2_with fail
  rw [← unhide HW]
  refine (equalS_any _ _ _ W HA.1 HB.1).mono ?_
  rintro e w1 ⟨rfl, B1⟩
  have X1 := box_below X0 B1
  have Y1 := box_below Y0 B1
  have HA1 := HA.below B1
  have HB1 := HB.below B1
  have BB1 := below_trans' BW B1
  have x1 := box_cell X1 (j := 1) rfl
  have y1 := box_cell Y1 (j := 1) rfl
  clear X0 Y0 HA HB B1 BW
  go_wp2_with fail
  refine (equal_b _ _ _ _ w1 HA1.2.1 HB1.2.1 true (by simp)).mono ?_
  rintro e w2 ⟨rfl, B2⟩
  have X2 := box_below X1 B2
  have Y2 := box_below Y1 B2
  have HA2 := HA1.below B2
  have HB2 := HB1.below B2
  have BB2 := below_trans' BB1 B2
  have x2 := box_cell X2 (j := 2) rfl
  have y2 := box_cell Y2 (j := 2) rfl
  clear X1 Y1 HA1 HB1 B2 BB1 x1 y1
  go_wp2_with fail
  refine (equal_b _ _ _ _ w2 HA2.2.2.1 HB2.2.2.1 true (by simp)).mono ?_
  rintro e w3 ⟨rfl, B3⟩
  have X3 := box_below X2 B3
  have Y3 := box_below Y2 B3
  have HA3 := HA2.below B3
  have HB3 := HB2.below B3
  have BB3 := below_trans' BB2 B3
  have x3 := box_cell X3 (j := 3) rfl
  have y3 := box_cell Y3 (j := 3) rfl
  clear X2 Y2 HA2 HB2 B3 BB2 x2 y2
  go_wp2_with fail
  refine (equalT_any _ _ _ w3 HA3.2.2.2 HB3.2.2.2).mono ?_
  rintro e w4 ⟨rfl, B4⟩
  have BB4 := below_trans' BB3 B4
  go_wp2
  go_ret
  exact ⟨rfl, BB4⟩
end Go.Proofs.YtnahjaloodeicaaGreat
