/-
  The map from places (a document, a place in it) to words: its keys are structs ('Tel': what it tells).
-/
import Derived.Test.YtonhehhmnobciaaPlainT8
import Derived.Test.YtonhehhmnobciaaPlainS8
import Derived.DeepKeys4
namespace Go.Proofs.Ytonhehhmnobciaa
set_option maxRecDepth 100000
open Go.RowKit Go.WideMaps Go.Maps

theorem laid8 : laidOutB Try.prog = true := by kernel_rfl
theorem row8 : (107 : TypeId) < Try.prog.types.size := of_decide_eq_true (by kernel_rfl)
theorem deep8 : Try.prog.keyTypeAt 2 107 = true := by kernel_rfl
theorem keyed8 : Keyed Try.prog 107 := Keyed.of_law (deep_law_laid laid8 (m := 2) (by omega) row8 deep8 (by rw [Try.underlying107]))

theorem lits3 (n : Nat) (d : Int) (hd : (Lit.int .i64 d).wf = true) : Try.prog.keyLits (n + 1) 3 [.int .i64 d] = some [.int .i64 d] := by
  unfold Program.keyLits
  rw [Try.underlying3]
  simp only [hd, and_self, if_true]
theorem lits8 (n : Nat) (d k : Int) (hd : (Lit.int .i64 d).wf = true) (hk : (Lit.int .i64 k).wf = true) : Try.prog.keyLits (n + 2) 107 [.int .i64 d, .int .i64 k] = some [.int .i64 d, .int .i64 k] := by
  have h2 : Try.prog.cellsOf 107 = 2 := by kernel_rfl
  have h3 : Try.prog.cellsOf 3 = 1 := by kernel_rfl
  unfold Program.keyLits
  rw [Try.underlying107]
  simp only [h2, List.length_cons, List.length_nil]
  rw [if_pos ⟨trivial, by simp⟩]
  simp only [List.mapM_cons, List.mapM_nil, h3, List.drop_zero, List.take_succ_cons, List.take_zero, List.drop_succ_cons, lits3 n d hd, lits3 n k hk]
  rfl
theorem key8 (d k : Int) (hd : (Lit.int .i64 d).wf = true) (hk : (Lit.int .i64 k).wf = true) : ∃ l, keyOf Try.prog 107 (.agg #[.int .i64 d, .int .i64 k]) = some l := by
  have h1 : Try.prog.keyType 107 = true := by kernel_rfl
  have h2 : Try.prog.cellsOf 107 = 2 := by kernel_rfl
  have hpos : 0 < Try.prog.types.size := Nat.lt_of_le_of_lt (Nat.zero_le _) row8
  have h4 : (Value.agg #[.int .i64 d, .int .i64 k]).formed Try.prog 107 = true := by simp [Value.formed, Try.underlying107, h2]
  have h5 := lits8 (Try.prog.types.size - 1) d k hd hk
  rw [show Try.prog.types.size - 1 + 2 = Try.prog.types.size + 1 by omega] at h5
  unfold keyOf
  rw [Try.underlying107, h1, h4]
  simp only [Bool.and_self, if_true]
  exact ⟨_, by rw [show (Value.agg #[.int .i64 d, .int .i64 k]).cells.toList = [.int .i64 d, .int .i64 k] from rfl, h5]; rfl⟩

abbrev KO (d k : Int) (l : Lit) : Prop := keyOf Try.prog 107 (.agg #[.int .i64 d, .int .i64 k]) = some l
/-- The map tells of the places in dn, and of no other one, which word stands there. -/
def Tel (M : DataW Unit) (dn : List S.Spot) : Prop :=
  IsMap M ∧ (∀ x ∈ dn, ∀ l, KO x.1.1 x.1.2 l → Maps.has M l = true ∧ M.atKey l (.lit (.int .i64 0)) = .lit (.int .i64 x.2)) ∧ (∀ d k l, KO d k l → Maps.has M l = true → ∃ i, ((d, k), i) ∈ dn) ∧ Maps.size M = dn.length

theorem Tel.start : Tel (.map []) [] := ⟨isMap_empty, (fun x hx => by cases hx), (fun d k l _ h => by cases h), rfl⟩
theorem Tel.free {M : DataW Unit} {dn : List S.Spot} (h : Tel M dn) {d k : Int} {l : Lit} (hl : KO d k l) (hf : ∀ i, ((d, k), i) ∉ dn) : Maps.has M l = false := by
  cases hb : Maps.has M l with
  | false => rfl
  | true =>
    obtain ⟨i, hi⟩ := h.2.2.1 d k l hl hb
    exact absurd hi (hf i)
theorem Tel.step {M : DataW Unit} {dn : List S.Spot} (h : Tel M dn) (ht : Tidy M) {d k : Int} {l : Lit} (hl : KO d k l) (hf : ∀ i, ((d, k), i) ∉ dn) (i : Nat) : Tel (M.put l (.lit (.int .i64 i))) (dn ++ [((d, k), i)]) := by
  have hkl := keyed8.key hl
  have hne : ∀ {d' k' : Int} {l' : Lit}, KO d' k' l' → (d', k') ≠ (d, k) → l' ≠ l := by
    intro d' k' l' h' hn e
    subst e
    have := keyed8.inj h' hl
    simp only [Value.agg.injEq, Array.mk.injEq, List.cons.injEq, Value.int.injEq, true_and, and_true] at this
    exact hn (by rw [this.1, this.2])
  have hfr := h.free hl hf
  refine ⟨h.1.put _ _, fun x hx l' hl' => ?_, fun d' k' l' hl' hh => ?_, ?_⟩
  · rcases List.mem_append.1 hx with hx | hx
    · have hn : (x.1.1, x.1.2) ≠ (d, k) := fun e => hf x.2 (by rw [← e]; exact hx)
      rw [has_put_other (hne hl' hn), atKey_put_other (hne hl' hn)]
      exact h.2.1 x hx l' hl'
    · simp only [List.mem_singleton] at hx
      subst hx
      have e : l' = l := by rw [KO] at hl hl'; simp only at hl'; rw [hl] at hl'; exact (Option.some.inj hl').symm
      subst e
      rw [has_put_same h.1 hkl, atKey_put_same h.1 hkl]
      exact ⟨rfl, rfl⟩
  · by_cases e : (d', k') = (d, k)
    · simp only [Prod.mk.injEq] at e
      obtain ⟨rfl, rfl⟩ := e
      exact ⟨i, by simp⟩
    · rw [has_put_other (hne hl' e)] at hh
      obtain ⟨i', hi'⟩ := h.2.2.1 d' k' l' hl' hh
      exact ⟨i', List.mem_append_left _ hi'⟩
  · rw [size_put ht, hfr, h.2.2.2]
    simp

/-- All that could be read can be read, as it was. -/
def Stays (w w' : World) : Prop := ∀ (a : Addr) (u : Value), w.cell? a = some u → w'.cell? a = some u
theorem Stays.refl (w : World) : Stays w w := fun _ _ h => h
theorem Stays.trans {w w1 w2 : World} (h : Stays w w1) (k : Stays w1 w2) : Stays w w2 := fun a u hu => k a u (h a u hu)
theorem Stays.of_below {w w' : World} (h : Below w.heap.size w w') : Stays w w' := fun _ _ hu => cell_keep hu h
theorem Stays.of_map {w w' : World} {b : Nat} {es : Array MapEntry} {cl : Nat} (hb : w.heap[b]? = some (.map es cl)) (h : w.grownBy w' (some b)) : Stays w w' := fun a u hu => by
  have hlt := World.block_lt_of_cell? w a hu
  have hne : some a.block ≠ some b := by
    intro e
    simp only [Option.some.injEq] at e
    simp [World.cell?, e, hb] at hu
  rw [World.cell?_of_block (h.block _ hlt hne)]
  exact hu
theorem Sl.stays {k : IntKind} {w w' : World} {v : Value} {zs : List Int} (h : Sl k w v zs) (hs : Stays w w') : Sl k w' v zs := by
  obtain ⟨a, cap, hv, hl, hm, hn, hc⟩ := h
  exact ⟨a, cap, hv, hl, hm, hn, fun x hx i hi => hs _ _ (hc x hx i hi)⟩
theorem Gl.stays {α : Type} {f : α → Value} {w w' : World} {v : Value} {l : List α} (h : Gl f w v l) (hs : Stays w w') : Gl f w' v l := by
  obtain ⟨a, cap, hv, hl, hm, hn, hc⟩ := h
  exact ⟨a, cap, hv, hl, hm, hn, fun x hx i y hi => hs _ _ (hc x hx i y hi)⟩
theorem Pl.stays {w w' : World} {v : Value} {L : List Pt} (h : Pl w v L) (hs : Stays w w') : Pl w' v L := by
  obtain ⟨a, cap, hv, hl, hm, hn, hc⟩ := h
  refine ⟨a, cap, hv, hl, hm, hn, fun x hx i p hi => ?_⟩
  obtain ⟨dv, h0, h1, h2⟩ := hc x hx i p hi
  exact ⟨dv, hs _ _ h0, hs _ _ h1, h2.stays hs⟩
theorem Kl.stays {α : Type} {f : α → List Value} {k : Nat} {w w' : World} {v : Value} {l : List α} (h : Kl f k w v l) (hs : Stays w w') : Kl f k w' v l := by
  obtain ⟨a, cap, hv, hl, hm, hn, hc⟩ := h
  exact ⟨a, cap, hv, hl, hm, hn, fun x hx i y hi j u hu => hs _ _ (hc x hx i y hi j u hu)⟩
theorem Ts.stays {w w' : World} {v : Value} {L : List Tm} (h : Ts w v L) (hs : Stays w w') : Ts w' v L := by
  obtain ⟨ps, h1, h2, h3⟩ := h
  exact ⟨ps, h1.stays hs, h2, fun p hp => (h3 p hp).stays hs⟩
theorem Sv.stays {w w' : World} {iv kv lv tv : Value} {s : Sg} (h : Sv w iv kv lv tv s) (hs : Stays w w') : Sv w' iv kv lv tv s := ⟨h.1.stays hs, h.2.1.stays hs, h.2.2.1.stays hs, h.2.2.2.stays hs⟩

abbrev Map8 (w : World) (b n : Nat) (M : DataW Unit) : Prop := w.ownsMap (H := Unit) Try.prog 107 (plainElem Try.prog 3) b n M

/-- '_, taken := stands[here]' at a place that is free. -/
theorem lookup_free {ops : Array Oper} {rest : List Oper} {o : Oper} {a : Act} {Q : Exit → Act → World → Prop} {w : World} {b n : Nat} {M : DataW Unit} {dn : List S.Spot} {d k : Int} (hg : o.guard = none) (m x : Operand) (hop : o.op = Op.lookup 76 m x true) (hm : a.eval m = .map (some b))
    (ho : Map8 w b n M) (hT : Tel M dn) (hd : (Lit.int .i64 d).wf = true) (hk : (Lit.int .i64 k).wf = true) (hf : ∀ i, ((d, k), i) ∉ dn) (hx : a.eval x = .agg #[.int .i64 d, .int .i64 k])
    (hK : ∀ c : Int, wpList Try.prog ops Q rest (a.put o.dst (.tuple #[.int .i64 c, .bool false])) w) : wpList Try.prog ops Q (o :: rest) a w := by
  obtain ⟨l, hl⟩ := key8 d k hd hk
  refine wpList_lookup_own_ok_int _ hg m x _ hop 107 3 .i64 keyed8 Try.underlying76 Try.underlying3 (zero3 _) b n M hm ho _ _ hx hl ?_
  intro c _ _
  rw [hT.free hl hf]
  exact hK c

/-- 'stands[here]' at a place that is taken. -/
theorem run_taken {w : World} {b n : Nat} {M : DataW Unit} {dn : List S.Spot} {d k : Int} {i : Nat} (ho : Map8 w b n M) (hT : Tel M dn) (hd : (Lit.int .i64 d).wf = true) (hk : (Lit.int .i64 k).wf = true) (hi : ((d, k), i) ∈ dn) :
    (Instr.lookup 76 (.map (some b)) (.agg #[.int .i64 d, .int .i64 k]) false).run Try.prog w = .ok (.int .i64 (i : Int)) w := by
  obtain ⟨l, hl⟩ := key8 d k hd hk
  obtain ⟨c, hc, hat, _⟩ := ho.lookup_int keyed8 Try.underlying76 Try.underlying3 (zero3 _) hl
  rw [(hT.2.1 _ hi l hl).2] at hat
  simp only [DataW.lit.injEq, Lit.int.injEq, true_and] at hat
  rw [hc, ← hat]
end Go.Proofs.Ytonhehhmnobciaa
