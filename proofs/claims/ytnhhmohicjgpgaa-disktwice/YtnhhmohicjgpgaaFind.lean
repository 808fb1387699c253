/-
  The contracts of places (where each name stands: a map), Find, Used, Read, New, and of the document's own ones.
-/
import Derived.Test.YtnhhmohicjgpgaaMay
import Derived.Test.YtnhhmohicjgpgaaPlainFind
import Derived.Maps.OwnSet
namespace Go.Proofs.Ytnhhmohicjgpgaa
open Go.RowKit Go.WideMaps Go.Maps

theorem keyed9 : Keyed Try.prog 9 := string_keyed Try.underlying9
theorem zero3 (w : World) : (zeroValue 3).run Try.prog w = .ok (.int .i64 0) w := by kernel_rfl

/-- The map value v tells, in w, where each name stands last. -/
def Tells (D : DataW Unit) (L : List Pf) (k : Nat) : Prop :=
  IsMap D ∧ ∀ s : ByteArray, Maps.has D (.string s.data.toList) = (K.lastTo L s k).isSome ∧ D.atKey (.string s.data.toList) (.lit (.int .i64 0)) = .lit (.int .i64 ((K.lastTo L s k).getD 0 : Nat))
def Mp (w : World) (v : Value) (L : List Pf) : Prop :=
  ∃ b n D, v = .map (some b) ∧ w.ownsMap (H := Unit) Try.prog 9 (plainElem Try.prog 3) b n D ∧ Tells D L L.length

theorem Tells.start (L : List Pf) : Tells (.map []) L 0 := ⟨isMap_empty, fun _ => ⟨rfl, rfl⟩⟩
theorem bytes_ne {a b : ByteArray} (h : a ≠ b) : Lit.string a.data.toList ≠ Lit.string b.data.toList := by
  intro e
  simp only [Lit.string.injEq] at e
  exact h (ByteArray.ext (Array.ext' e))
theorem Tells.step {D : DataW Unit} {L : List Pf} {k : Nat} {f : Pf} (h : Tells D L k) (hf : L[k]? = some f) : Tells (D.put (.string f.nm.data.toList) (.lit (.int .i64 k))) L (k + 1) := by
  refine ⟨h.1.put _ _, fun s => ?_⟩
  by_cases hs : f.nm = s
  · subst hs
    rw [K.lastTo_same hf, has_put_same h.1 (by simp [WideAt.IsKeyLit]), atKey_put_same h.1 (by simp [WideAt.IsKeyLit])]
    exact ⟨rfl, rfl⟩
  · rw [K.lastTo_other hf hs, has_put_other (bytes_ne (Ne.symm hs)), atKey_put_other (bytes_ne (Ne.symm hs))]
    exact h.2 s

theorem Mp.below {w w' : World} {v : Value} {L : List Pf} (h : Mp w v L) (hb : Below w.heap.size w w') : Mp w' v L := by
  obtain ⟨b, n, D, hv, ho, ht⟩ := h
  refine ⟨b, n, D, hv, ?_, ht⟩
  have hl := ho.lt
  unfold World.ownsMap at ho ⊢
  rw [hb.block b hl]
  exact ho

set_option maxHeartbeats 1000000 in
theorem places_any (v : Value) (L : List Pf) (w : World) (h : Fl w v L) (hf : Fits L) :
    Calls Try.prog 35 #[v] w fun e w' => ∃ v', e = .returned v' ∧ Mp w' v' L ∧ Below w.heap.size w w' := by
  obtain ⟨a, cap, rfl, hl, hm, hna, ho⟩ := h.open
  clear h
  have hmm := @run_makeMap Try.prog
  have hL := hf.1
  go_enter Try.func35, Try.ntmps35
  go_wp2
  go_loopw [9] (fun i wr => ∃ (k : Nat) (D : DataW Unit), k ≤ L.length ∧ i = .int .i64 k ∧ wr.ownsMap Try.prog 9 (plainElem Try.prog 3) w.heap.size k D ∧ Tells D L k ∧ Below w.heap.size w wr) (fun i _ => L.length - (intOf i).toNat)
  case atStart => exact ⟨0, _, Nat.zero_le _, rfl, World.ownsMap_made _ _ _ _, Tells.start L, below_alloc _ _⟩
  case round =>
    obtain ⟨k, D, hk, rfl, hown, htel, hbel⟩ := hrel
    have HT := hide htel
    clear htel
    by_cases hlt : k < L.length
    · obtain ⟨f, hfk⟩ : ∃ f, L[k]? = some f := ⟨L[k], List.getElem?_eq_getElem hlt⟩
      obtain ⟨b, off, rfl, hb, hc⟩ := ho (by omega)
      obtain ⟨da, dc, c0, c1, c2, c3⟩ := hc k f hfk
      have d0 := (hbel.cell (p := ⟨b, off + k * 3, none⟩) hb).trans c0
      have d1 := (hbel.cell (p := ⟨b, off + k * 3 + 1, none⟩) hb).trans c1
      have d2 := (hbel.cell (p := ⟨b, off + k * 3 + 2, none⟩) hb).trans c2
      have hns : f.nm.size ≤ maxLen := by have := (hf.2 f (List.mem_of_getElem? hfk)).2; unfold maxLen; omega
      have hkey : keyOf Try.prog 9 (.string f.nm) = some (.string f.nm.data.toList) := keyOf_string_mk Try.underlying9 hns
      have hbs := hbel.size
      have HS := hide (fun h => Tells.step (D := D) h hfk)
      clear hc ho c0 c1 c2 c3 hfk
      go_wp2_with (first
        | (at_mapUpdate; refine wpList_mapUpdate_own _ rfl _ _ _ 57 rfl 9 3 keyed9 Try.underlying57 _ w.heap.size k _ rfl (hown.alloc _) (by unfold maxLen; omega) _ _ _ rfl rfl hkey _ [] (plainElem_int Try.underlying3 (WalkArith.wf_i64 (by omega))) ?_)
        | go_in)
      intro w1 hown1 hgrow1
      have R2 := (hbel.alloc hbs _).grown hgrow1 (by simp; omega) (fun j hj => by cases hj; exact Nat.le_refl _)
      clear hgrow1
      go_wp2
      go_roundw
      case rel => exact ⟨k + 1, _, by omega, by go_num, hown1, unhide HS (unhide HT), R2⟩
      case measure => simp [intOf]; omega
    · go_wp2
      go_ret
      have : k = L.length := by omega
      subst this
      exact ⟨_, rfl, ⟨_, _, D, rfl, hown, unhide HT⟩, hbel⟩

/-- 'v, ok := m[name]': the place, and whether there is one. -/
theorem lookup_place {ops : Array Oper} {rest : List Oper} {o : Oper} {a : Act} {Q : Exit → Act → World → Prop} {w : World} {v : Value} {L : List Pf} (hg : o.guard = none) (m x : Operand) (hop : o.op = Op.lookup 57 m x true)
    (hm : a.eval m = v) (hv : Mp w v L) (hu : K.Up L) (s : ByteArray) (hs : s.size ≤ maxLen) (hx : a.eval x = .string s)
    (hK : wpList Try.prog ops Q rest (a.put o.dst (.tuple #[.int .i64 ((K.find L s).getD 0 : Nat), .bool (K.find L s).isSome])) w) :
    wpList Try.prog ops Q (o :: rest) a w := by
  obtain ⟨b, n, D, rfl, ho, ht⟩ := hv
  refine wpList_lookup_own_ok_int _ hg m x _ hop 9 3 .i64 keyed9 Try.underlying57 Try.underlying3 (zero3 _) b n D hm ho _ _ hx (keyOf_string_mk Try.underlying9 hs) ?_
  intro c hc _
  rw [(ht.2 s).1, K.last_find hu]
  rw [(ht.2 s).2, K.last_find hu] at hc
  simp only [DataW.lit.injEq, Lit.int.injEq, true_and] at hc
  rw [← hc]
  exact hK

set_option maxHeartbeats 1000000 in
theorem find_any (cap : Int) (v : Value) (L : List Pf) (s : ByteArray) (w : World) (h : Fl w v L) (hf : Fits L) (hs : s.size ≤ maxLen) :
    Calls Try.prog 21 #[.agg #[.int .i64 cap, v], .string s] w fun e w' => e = .returned (.int .i64 (if K.may cap L = true then K.at L s else -1)) ∧ Below w.heap.size w w' := by
  have H0 := h.below (below_alloc w (.cells #[.int .i64 cap, v] 24))
  obtain ⟨a, sc, rfl, hl, hm, hna, -⟩ := h.open
  clear h
  cases hmay : K.may cap L with
  | false =>
    go_enter Try.func21, Try.ntmps21
    go_wp2_with fail
    refine (may_any _ _ _ _ H0 hf).mono ?_
    rintro e w1 ⟨rfl, B1⟩
    rw [hmay]
    go_wp2
    go_ret
    exact ⟨by simp, below_trans' (below_alloc _ _) B1⟩
  | true =>
    go_enter Try.func21, Try.ntmps21
    go_wp2_with fail
    refine (may_any _ _ _ _ H0 hf).mono ?_
    rintro e w1 ⟨rfl, B1⟩
    rw [hmay]
    have e1 : w1.cell? ⟨w.heap.size, 1, none⟩ = some (.slice a L.length sc) := (B1.cell (p := ⟨w.heap.size, 1, none⟩) (by simp)).trans (by simp)
    have H1 := H0.below B1
    go_wp2_with fail
    refine (places_any _ _ _ H1 hf).mono ?_
    rintro e w2 ⟨v', rfl, M2, B2⟩
    have BB := below_trans' (below_trans' (below_alloc _ _) B1) B2
    clear e1 H1 B1 B2 H0
    cases hfi : K.find L s with
    | none =>
      go_wp2_with (at_lookup; refine lookup_place rfl _ _ rfl rfl M2 (K.may_up hmay) s hs rfl ?_; rw [hfi])
      go_ret
      exact ⟨by simp [K.at, hfi], BB⟩
    | some i =>
      go_wp2_with (at_lookup; refine lookup_place rfl _ _ rfl rfl M2 (K.may_up hmay) s hs rfl ?_; rw [hfi])
      go_ret
      exact ⟨by simp [K.at, hfi], BB⟩

set_option maxHeartbeats 1000000 in
theorem used2_any (cap : Int) (v : Value) (L : List Pf) (w : World) (h : Fl w v L) (hf : Fits L) :
    Calls Try.prog 19 #[.agg #[.int .i64 cap, v]] w fun e w' => e = .returned (.int .i64 (if K.may cap L = true then K.sum L else 0 : Nat)) ∧ Below w.heap.size w w' := by
  have H0 := h.below (below_alloc w (.cells #[.int .i64 cap, v] 24))
  obtain ⟨a, sc, rfl, hl, hm, hna, -⟩ := h.open
  clear h
  have hsum := hf.sum
  cases hmay : K.may cap L with
  | false =>
    go_enter Try.func19, Try.ntmps19
    go_wp2_with fail
    refine (may_any _ _ _ _ H0 hf).mono ?_
    rintro e w1 ⟨rfl, B1⟩
    rw [hmay]
    go_wp2
    go_ret
    exact ⟨by simp, below_trans' (below_alloc _ _) B1⟩
  | true =>
    go_enter Try.func19, Try.ntmps19
    go_wp2_with fail
    refine (may_any _ _ _ _ H0 hf).mono ?_
    rintro e w1 ⟨rfl, B1⟩
    rw [hmay]
    have e1 : w1.cell? ⟨w.heap.size, 1, none⟩ = some (.slice a L.length sc) := (B1.cell (p := ⟨w.heap.size, 1, none⟩) (by simp)).trans (by simp)
    have H1 := H0.below B1
    go_wp2_with fail
    refine (size_any _ _ _ H1 (by omega)).mono ?_
    rintro e w2 ⟨rfl, B2⟩
    go_wp2
    go_ret
    exact ⟨by simp, below_trans' (below_trans' (below_alloc _ _) B1) B2⟩

set_option maxHeartbeats 1000000 in
theorem rused2_any (cap : Int) (v : Value) (L : List Pf) (w : World) (h : Fl w v L) (hf : Fits L) :
    Calls Try.prog 20 #[.agg #[.int .i64 cap, v]] w fun e w' => e = .returned (.int .i64 (if K.may cap L = true then K.sum L else 0 : Nat)) ∧ Below w.heap.size w w' := by
  have H0 := h.below (below_alloc w (.cells #[.int .i64 cap, v] 24))
  obtain ⟨a, sc, rfl, hl, hm, hna, -⟩ := h.open
  clear h
  have hsum := hf.sum
  cases hmay : K.may cap L with
  | false =>
    go_enter Try.func20, Try.ntmps20
    go_wp2_with fail
    refine (rmay_any _ _ _ _ H0 hf).mono ?_
    rintro e w1 ⟨rfl, B1⟩
    rw [hmay]
    go_wp2
    go_ret
    exact ⟨by simp, below_trans' (below_alloc _ _) B1⟩
  | true =>
    go_enter Try.func20, Try.ntmps20
    go_wp2_with fail
    refine (rmay_any _ _ _ _ H0 hf).mono ?_
    rintro e w1 ⟨rfl, B1⟩
    rw [hmay]
    have e1 : w1.cell? ⟨w.heap.size, 1, none⟩ = some (.slice a L.length sc) := (B1.cell (p := ⟨w.heap.size, 1, none⟩) (by simp)).trans (by simp)
    have H1 := H0.below B1
    go_wp2_with fail
    refine (used_any _ _ _ H1 (by omega)).mono ?_
    rintro e w2 ⟨rfl, rfl⟩
    go_wp2
    go_ret
    exact ⟨by simp, below_trans' (below_alloc _ _) B1⟩

set_option maxHeartbeats 1000000 in
theorem rfind_any (cap : Int) (v : Value) (L : List Pf) (s : ByteArray) (w : World) (h : Fl w v L) (hf : Fits L) :
    Calls Try.prog 22 #[.agg #[.int .i64 cap, v], .string s] w fun e w' => e = .returned (.int .i64 (if K.may cap L = true then K.at L s else -1)) ∧ Below w.heap.size w w' := by
  have H0 := h.below (below_alloc w (.cells #[.int .i64 cap, v] 24))
  obtain ⟨a, sc, rfl, hl, hm, hna, -⟩ := h.open
  clear h
  cases hmay : K.may cap L with
  | false =>
    go_enter Try.func22, Try.ntmps22
    go_wp2_with fail
    refine (rmay_any _ _ _ _ H0 hf).mono ?_
    rintro e w1 ⟨rfl, B1⟩
    rw [hmay]
    have e1 : w1.cell? ⟨w.heap.size, 1, none⟩ = some (.slice a L.length sc) := (B1.cell (p := ⟨w.heap.size, 1, none⟩) (by simp)).trans (by simp)
    go_wp2
    refine wp_loop_rounds 1 ?_
    rw [rounds_succ]
    by_cases hp : 0 < L.length
    all_goals
      go_wp2
      go_ret
      exact ⟨by simp, below_trans' (below_alloc _ _) B1⟩
  | true =>
    go_enter Try.func22, Try.ntmps22
    go_wp2_with fail
    refine (rmay_any _ _ _ _ H0 hf).mono ?_
    rintro e w1 ⟨rfl, B1⟩
    rw [hmay]
    have e1 : w1.cell? ⟨w.heap.size, 1, none⟩ = some (.slice a L.length sc) := (B1.cell (p := ⟨w.heap.size, 1, none⟩) (by simp)).trans (by simp)
    have BB := below_trans' (below_alloc w _) B1
    have H1 := H0.below B1
    obtain ⟨a', sc', hv', -, -, -, ho⟩ := H1.open
    simp only [Value.slice.injEq, true_and] at hv'
    obtain ⟨rfl, rfl⟩ := hv'
    clear H0 H1 B1
    go_wp2
    go_loop [6] (fun i => ∃ k : Nat, k ≤ L.length ∧ i = .int .i64 k ∧ ∀ j g, j < k → L[j]? = some g → g.nm ≠ s) (fun i => L.length - (intOf i).toNat)
    case atStart => exact ⟨0, Nat.zero_le _, rfl, fun j g hj => by omega⟩
    case round =>
      obtain ⟨k, hk, rfl, hno⟩ := hrel
      have HN := hide hno
      clear hno
      by_cases hlt : k < L.length
      · obtain ⟨f, hfk⟩ : ∃ f, L[k]? = some f := ⟨L[k], List.getElem?_eq_getElem hlt⟩
        obtain ⟨b, off, rfl, hb, hc⟩ := ho (by omega)
        obtain ⟨da, dc, c0, c1, c2, c3⟩ := hc k f hfk
        have hq := @K.eq_to f.nm s
        clear hc ho c1 c2 c3
        have HF := hide hfk
        clear hfk
        by_cases he : f.nm = s
        · have hq' : (f.nm.toList == s.toList) = true := by rw [hq]; simpa using he
          clear hq
          have HE := hide he
          clear he
          go_wp2
          go_ret
          refine ⟨?_, BB⟩
          simp [K.at, K.find_first (unhide HF) (unhide HE) (unhide HN)]
        · have hq' : (f.nm.toList == s.toList) = false := by rw [hq]; simpa using he
          clear hq
          have HE := hide he
          clear he
          go_wp2
          go_round
          case rel =>
            refine ⟨k + 1, by omega, by go_num, fun j g hj hg => ?_⟩
            rcases Nat.lt_or_ge j k with h1 | h1
            · exact unhide HN j g h1 hg
            · have : j = k := by omega
              subst this
              rw [unhide HF] at hg
              cases hg
              exact unhide HE
          case measure => simp [intOf]; omega
      · go_wp2
        go_ret
        refine ⟨?_, BB⟩
        have : K.find L s = none := by
          rw [K.find_none]
          intro f hfm
          obtain ⟨i, hi, rfl⟩ := List.getElem_of_mem hfm
          exact unhide HN i _ (by omega) (List.getElem?_eq_getElem hi)
        simp [K.at, this]

theorem find_b (cap : Int) (v : Value) (L : List Pf) (s : ByteArray) (w : World) (h : Fl w v L) (hf : Fits L) (hs : s.size ≤ maxLen) (r : Int) (hr : (if K.may cap L = true then K.at L s else -1) = r) :
    Calls Try.prog 21 #[.agg #[.int .i64 cap, v], .string s] w fun e w' => e = .returned (.int .i64 r) ∧ Below w.heap.size w w' := by
  rw [← hr]
  exact find_any cap v L s w h hf hs
theorem rfind_b (cap : Int) (v : Value) (L : List Pf) (s : ByteArray) (w : World) (h : Fl w v L) (hf : Fits L) (r : Int) (hr : (if K.may cap L = true then K.at L s else -1) = r) :
    Calls Try.prog 22 #[.agg #[.int .i64 cap, v], .string s] w fun e w' => e = .returned (.int .i64 r) ∧ Below w.heap.size w w' := by
  rw [← hr]
  exact rfind_any cap v L s w h hf
theorem may_b (cap : Int) (v : Value) (L : List Pf) (w : World) (h : Fl w v L) (hf : Fits L) (r : Bool) (hr : K.may cap L = r) :
    Calls Try.prog 18 #[.agg #[.int .i64 cap, v]] w fun e w' => e = .returned (.bool r) ∧ Below w.heap.size w w' := by
  rw [← hr]
  exact may_any cap v L w h hf
theorem rmay_b (cap : Int) (v : Value) (L : List Pf) (w : World) (h : Fl w v L) (hf : Fits L) (r : Bool) (hr : K.may cap L = r) :
    Calls Try.prog 16 #[.agg #[.int .i64 cap, v]] w fun e w' => e = .returned (.bool r) ∧ Below w.heap.size w w' := by
  rw [← hr]
  exact rmay_any cap v L w h hf
theorem clone_b (v : Value) (z : List Int) (w : World) (h : Sl .u8 w v z) (hs : z.length ≤ 4294967296) :
    Calls Try.prog 29 #[v] w fun e w' => ∃ v', e = .returned v' ∧ Sl .u8 w' v' z ∧ Below w.heap.size w w' :=
  (clone_any v z w h hs).mono fun _ _ ⟨v', h1, h2, h3⟩ => ⟨v', h1, Sl.owned h2, h3⟩
end Go.Proofs.Ytnhhmohicjgpgaa
