/-
  Slices of slices of texts: what they read as ('Ll'); the contracts of Clone, least and pass.
-/
import Derived.Test.YtgiefkeophobhaaRRead7
import Derived.Lib.SliceRun
namespace Go.Proofs.Ytgiefkeophobhaa
open Go.RowKit

/-- A row of another kind stays while one is appended to. -/
theorem own_other {w w' : World} {B B' e e' size size' n n' : Nat} {v v' : Value} {xs xs' : List Value} (h : w.ownsRow B e size v n xs) (h' : w.ownsRow B' e' size' v' n' xs') (hne : e ≠ e')
    (hg : ∀ k, k < w.heap.size → some k ≠ v.ownBlock → w'.heap[k]? = w.heap[k]?) : w'.ownsRow B' e' size' v' n' xs' := by
  refine ⟨h'.1, ?_⟩
  rcases h'.2 with h0 | ⟨g, cap, cur, rfl, hb, hgg, rest⟩
  · exact .inl h0
  · refine .inr ⟨g, cap, cur, rfl, hb, ?_, rest⟩
    rw [hg g (Array.getElem?_eq_some_iff.1 hgg).1 ?_]
    · exact hgg
    · rcases h.2 with ⟨rfl, _⟩ | ⟨g2, cap2, cur2, rfl, _, hg2, _⟩
      · simp [Value.ownBlock]
      · intro e1
        simp only [Value.ownBlock, Option.some.injEq] at e1
        subst e1
        rw [hgg] at hg2
        simp only [Option.some.injEq, Obj.cells.injEq] at hg2
        exact hne hg2.2.1.symm

section
variable {α : Type} {f : α → Value}
/-- 'out = append(out, y)', and all else stays. -/
theorem append_oneK {P : Program} {ops : Array Oper} {rest : List Oper} {o : Oper} {a : Act} {Q : Exit → Act → World → Prop} {w0 wr : World} (hgd : o.guard = none) (s x : Operand) (t : TypeId)
    (ho : o.op = .call { callee := .builtin .append, args := #[s, x], argTypes := #[t, t] }) {B : Nat} {e : TypeId} {i : TypeInfo} {z : Value} {bytes : Nat}
    (ht : P.underlying t = some (.slice e)) (hi : P.info? e = some i) (hz : i.zero = some z) (hsize : i.size = 1) (hby : i.bytes = bytes) (hzs : z.cells.size = 1)
    (hf : ∀ y, (f y).oneCell' = true) {pre : List α} {y : α} {v : Value} (hs : a.eval s = v) (hx : a.eval x = .slice (some ⟨wr.heap.size, 0, none⟩) 1 1)
    (hown : wr.ownsRow B e 1 v pre.length (pre.map f)) {B0 : Nat} (hbel : Below B0 w0 wr) (hB0 : B0 ≤ B) (hB : B ≤ wr.heap.size) (hlen : pre.length ≤ 4294967296) (hb8 : bytes ≤ 16)
    (h : ∀ v' w', w'.ownsRow B e 1 v' (pre ++ [y]).length ((pre ++ [y]).map f) → Below B0 w0 w' → (∀ k, k < wr.heap.size → some k ≠ v.ownBlock → w'.heap[k]? = wr.heap[k]?) → wr.heap.size ≤ w'.heap.size → wpList P ops Q rest (a.put o.dst v') w') :
    wpList P ops Q (o :: rest) a (wr.alloc (.cells #[f y] e)) := by
  refine wpList_append_own _ hgd s x t ho B e i z 1 bytes ht hi hz hsize hby hzs (by decide) v pre.length _ hs (hown.alloc _) ⟨wr.heap.size, 0, none⟩ 1 1 [f y] hx rfl ?_ ?_ ?_ ?_ ?_ ?_
  · intro j u hj
    match j, hj with
    | 0, hj => simp at hj; subst hj; simp [Addr.add]
  · intro u hu; simp at hu; subst hu; exact hf y
  · unfold maxLen; omega
  · have h1 : (pre.length + 1) * bytes ≤ 4294967297 * 16 := Nat.mul_le_mul (by omega) hb8
    omega
  · simp; omega
  · intro v' w1 hown' hg _
    refine h v' w1 (by simpa using hown') ((hbel.alloc (by omega) _).grown hg (by simp; omega) (fun j hj => by have := (hown.lt j hj).1; omega)) (fun k hk hne => ?_) ?_
    · rw [hg.block k (by simp; omega) hne, Below.heap_alloc _ _ _ hk]
    · have := hg.size
      simp at this
      omega
end


/-- A slice value by its parts. -/
def sv (s : Option Addr × Nat × Nat) : Value := .slice s.1 s.2.1 s.2.2

/-- Each slice reads, in w, as the list in its place. -/
def As (w : World) (us : List (Option Addr × Nat × Nat)) (ls : List (List ByteArray)) : Prop :=
  us.length = ls.length ∧ ∀ (i : Nat) (s : Option Addr × Nat × Nat) (l : List ByteArray), us[i]? = some s → ls[i]? = some l → Gl .string w (sv s) l
/-- The slice value v reads, in w, as the lists ls. -/
def Ll (w : World) (v : Value) (ls : List (List ByteArray)) : Prop := ∃ us, Gl sv w v us ∧ As w us ls

theorem As.below {w w' : World} {us : List (Option Addr × Nat × Nat)} {ls : List (List ByteArray)} (h : As w us ls) (hb : Below w.heap.size w w') : As w' us ls :=
  ⟨h.1, fun i s l hs hl => (h.2 i s l hs hl).below hb⟩
theorem Ll.below {w w' : World} {v : Value} {ls : List (List ByteArray)} (h : Ll w v ls) (hb : Below w.heap.size w w') : Ll w' v ls := by
  obtain ⟨us, h1, h2⟩ := h
  exact ⟨us, h1.below hb, h2.below hb⟩

theorem As.set {w : World} {us : List (Option Addr × Nat × Nat)} {ls : List (List ByteArray)} (h : As w us ls) (k : Nat) {s : Option Addr × Nat × Nat} {l : List ByteArray} (hg : Gl .string w (sv s) l) : As w (us.set k s) (ls.set k l) := by
  refine ⟨by simp [h.1], fun i s' l' hs hl => ?_⟩
  by_cases e : k = i
  · subst e
    rw [List.getElem?_set_self'] at hs hl
    cases h1 : us[k]? with
    | none => rw [h1] at hs; simp at hs
    | some x =>
      cases h2 : ls[k]? with
      | none => rw [h2] at hl; simp at hl
      | some y =>
        rw [h1] at hs
        rw [h2] at hl
        simp at hs hl
        subst hs hl
        exact hg
  · rw [List.getElem?_set_ne e] at hs hl
    exact h.2 i s' l' hs hl

/-- What a list of lists reads as in its place k: a slice, and, if there is a word, the first one. -/
theorem Ll.at {w : World} {v : Value} {ls : List (List ByteArray)} (h : Ll w v ls) : ∃ a cap, v = .slice a ls.length cap ∧ ls.length ≤ cap ∧ cap ≤ 9223372036854775807 ∧
    (0 < ls.length → ∃ b off, a = some ⟨b, off, none⟩ ∧ b < w.heap.size ∧ ∀ k l, ls[k]? = some l → ∃ x c, w.cell? ⟨b, off + k, none⟩ = some (.slice x l.length c) ∧ Gl .string w (.slice x l.length c) l) := by
  obtain ⟨us, h1, h2, h3⟩ := h
  obtain ⟨a, cap, rfl, hl, hm, hna, ho⟩ := h1.open
  rw [h2] at hl ho ⊢
  refine ⟨a, cap, rfl, hl, hm, fun hp => ?_⟩
  obtain ⟨b, off, rfl, hb, hc⟩ := ho hp
  refine ⟨b, off, rfl, hb, fun k l hk => ?_⟩
  have hku : k < us.length := by rw [h2]; exact (List.getElem?_eq_some_iff.1 hk).1
  have hs := List.getElem?_eq_getElem hku
  have c1 := hc k _ hs
  have g1 := h3 k _ l hs hk
  obtain ⟨x, c, hv, -⟩ := id g1
  rw [hv] at c1 g1
  exact ⟨x, c, c1, g1⟩

/-- The first word of a list that has one. -/
theorem Gl.first {w : World} {x : Option Addr} {n c : Nat} {l : List ByteArray} (h : Gl .string w (.slice x n c) l) (h0 : 0 < l.length) : ∃ b off y, x = some ⟨b, off, none⟩ ∧ b < w.heap.size ∧ l[0]? = some y ∧ w.cell? ⟨b, off, none⟩ = some (.string y) := by
  obtain ⟨x', c', hv, -, -, -, ho⟩ := h.open
  simp only [Value.slice.injEq] at hv
  obtain ⟨rfl, rfl, rfl⟩ := hv
  obtain ⟨b, off, rfl, hb, hc⟩ := ho h0
  have hs := List.getElem?_eq_getElem h0
  exact ⟨b, off, _, rfl, hb, hs, by simpa using hc 0 _ hs⟩

theorem Gl.cut {w : World} {a : Option Addr} {cap : Nat} {L : List ByteArray} (h : Gl .string w (.slice a L.length cap) L) (lo hi : Nat) (h1 : lo ≤ hi) (h2 : hi ≤ L.length) :
    Gl .string w (sliced a lo hi cap 1) ((L.drop lo).take (hi - lo)) := by
  obtain ⟨a', cap', hv, hl, hmx, hn, hc⟩ := h
  simp only [Value.slice.injEq, true_and] at hv
  obtain ⟨rfl, rfl⟩ := hv
  have hlen : ((L.drop lo).take (hi - lo)).length = hi - lo := by simp; omega
  refine ⟨_, cap - lo, by simp only [sliced, hlen]; rfl, by omega, by unfold maxLen at *; omega, ?_, ?_⟩
  · intro h
    split at h
    · have := hn h; omega
    · simp at h; have := hn h; omega
  · intro x hx i y hy
    have hi' : i < hi - lo := by
      have := (List.getElem?_eq_some_iff.1 hy).1
      omega
    have hyl : L[lo + i]? = some y := by
      rw [List.getElem?_take, if_pos hi', List.getElem?_drop] at hy
      exact hy
    rw [if_neg (by omega)] at hx
    cases a with
    | none => simp at hx
    | some z =>
      have h0 := hc z rfl (lo + i) y hyl
      obtain ⟨b, off, spot⟩ := z
      have z0 := hc _ rfl 0 L[0] (List.getElem?_eq_getElem (by omega))
      have hsp : spot = none := by simpa [Addr.add] using World.cell?_spot z0
      subst hsp
      simp [Addr.add_lit] at hx
      subst hx
      simp only [Addr.add_lit] at h0 ⊢
      rw [show off + lo + i = off + (lo + i) by omega]
      exact h0

theorem run_st_from (a : Option Addr) (n cap m : Nat) (hm : m ≤ n) (w : World) :
    (Instr.slice 22 (.slice a n cap) (some (.int .i64 (m : Int))) none none).run Try.prog w = .ok (sliced a m n cap 1) w := by
  have hs : ∀ w : World, (sizeOf (Try.prog.elem 22)).run Try.prog w = .ok 1 w := fun w => by kernel_rfl
  rw [run_slice_l w 22 _ n cap (by kernel_rfl) .i64 m (by omega) (by omega), hs]
  simp [Result.andThen]
theorem run_st_to (a : Option Addr) (n cap m : Nat) (hm : m ≤ cap) (w : World) :
    (Instr.slice 22 (.slice a n cap) none (some (.int .i64 (m : Int))) none).run Try.prog w = .ok (sliced a 0 m cap 1) w := by
  have hs : ∀ w : World, (sizeOf (Try.prog.elem 22)).run Try.prog w = .ok 1 w := fun w => by kernel_rfl
  rw [run_slice_h w 22 _ n cap (by kernel_rfl) .i64 m (by omega) (by omega), hs]
  simp [Result.andThen]
theorem drop_take_all {α : Type} (L : List α) (m : Nat) : (L.drop m).take (L.length - m) = L.drop m := List.take_of_length_le (by simp)

theorem Try.infoL : (Try.prog.info? 22).map (fun i => (i.zero, i.size, i.bytes)) = some (some (.slice none 0 0), 1, 24) := by kernel_rfl

set_option maxHeartbeats 1000000 in
theorem cloneL_any (v : Value) (us : List (Option Addr × Nat × Nat)) (w : World) (h : Gl sv w v us) (hll : us.length ≤ 1000000) :
    Calls Try.prog 28 #[v] w fun e w' => ∃ v', e = .returned v' ∧ w'.ownsRow w.heap.size 22 1 v' us.length (us.map sv) ∧ Below w.heap.size w w' := by
  obtain ⟨i0, hi, hz0, hz1, hz2⟩ := info_parts Try.infoL
  have H := h
  obtain ⟨a, cap, rfl, hl, hm, hna, -⟩ := h
  have q : ∀ (w : World) (a : Option Addr) (n c n' c' : Nat), (binOp .eql 27 (.slice a n c) (.slice none n' c')).run Try.prog w = .ok (.bool a.isNone) w := fun w a n c n' c' => Lib.run_eql_slice_nil w _ _ a n c n' c' Try.underlying27
  cases a with
  | none =>
    have hl0 : us = [] := List.eq_nil_of_length_eq_zero (by have := hna rfl; omega)
    subst hl0
    clear H
    go_enter Try.func28, Try.ntmps28
    go_wp2
    go_ret
    exact ⟨_, rfl, World.ownsRow_nil _ _ _ _, Below.refl _ _⟩
  | some x =>
    have H1 := H.below (below_alloc w (.cells #[] 22))
    have O1 := World.ownsRow_made (base := w.heap.size) (e := 22) (size := 1) w #[] 0 (Nat.le_refl _) (Nat.zero_le _) rfl
    obtain ⟨x', cap', hv', -, -, -, hc⟩ := H1
    simp only [Value.slice.injEq, true_and] at hv'
    obtain ⟨hx', rfl⟩ := hv'
    have hc := hc x hx'.symm
    have HC := hide hc
    clear hc hx'
    go_enter Try.func28, Try.ntmps28
    go_wp2_with (at_builtin; refine wpList_append_own _ rfl _ _ 27 rfl w.heap.size 22 i0 _ 1 24 Try.underlying27 hi hz0 hz1 hz2 rfl (by decide) _ 0 [] rfl O1 x us.length _ (us.map sv) rfl (by simp) (fun j u hj => by rw [List.getElem?_map] at hj; obtain ⟨q, hq, rfl⟩ := Option.map_eq_some_iff.1 hj; exact unhide HC j q hq) (fun u hu => by obtain ⟨q, _, rfl⟩ := List.mem_map.1 hu; rfl) (by unfold maxLen; omega) (by omega) (by simp) ?_; intro v1 w1 O2 g2 _)
    go_ret
    exact ⟨_, rfl, by simpa using O2, (below_alloc _ _).grown g2 (by simp) (fun j hj => (O1.lt j hj).1)⟩

theorem lstep_nil {o : Option ByteArray} {l : List ByteArray} (h : ¬ 0 < l.length) : D.lstep o l = o := by
  have : l = [] := List.eq_nil_of_length_eq_zero (by omega)
  subst this
  rfl
theorem lstep_none {l : List ByteArray} {x : ByteArray} (h : l[0]? = some x) : D.lstep none l = some x := by
  cases l with
  | nil => simp at h
  | cons y l => simp at h; subst h; rfl
theorem lstep_some {l : List ByteArray} {x u : ByteArray} (h : l[0]? = some x) : D.lstep (some u) l = if K.lt x u = true then some x else some u := by
  cases l with
  | nil => simp at h
  | cons y l => simp at h; subst h; rfl

/-- What least tells. -/
def D.lv : Option ByteArray → ByteArray
  | none => ⟨#[]⟩
  | some x => x

set_option maxHeartbeats 2000000 in
theorem least_any (v : Value) (ls : List (List ByteArray)) (w : World) (h : Ll w v ls) (o : Option ByteArray) (ho' : D.least ls = o) :
    Calls Try.prog 29 #[v] w fun e w' => e = .returned (.tuple #[.string (D.lv o), .bool o.isSome]) ∧ w' = w := by
  obtain ⟨a, cap, rfl, hl, hm, ho⟩ := h.at
  have HO := hide ho'
  clear h ho'
  go_enter Try.func29, Try.ntmps29
  go_wp2
  go_loop [4, 5, 10] (fun wv bv iv => ∃ (k : Nat) (q : Option ByteArray), k ≤ ls.length ∧ iv = .int .i64 k ∧ wv = .string (D.lv q) ∧ bv = .bool q.isSome ∧ Hid (D.least (ls.take k) = q)) (fun _ _ iv => ls.length - (intOf iv).toNat)
  case atStart => exact ⟨0, none, Nat.zero_le _, rfl, rfl, rfl, rfl⟩
  case round =>
    obtain ⟨k, q, hk, rfl, rfl, rfl, HQ⟩ := hrel
    by_cases hlt : k < ls.length
    · obtain ⟨b, off, rfl, hb, hc⟩ := ho (by omega)
      obtain ⟨l, hx⟩ : ∃ l, ls[k]? = some l := ⟨ls[k], List.getElem?_eq_getElem hlt⟩
      obtain ⟨x, c, c1, G1⟩ := hc k l hx
      have hst := D.least_step hx
      rw [unhide HQ] at hst
      clear hx hc ho HQ
      by_cases h0 : 0 < l.length
      · obtain ⟨b1, off1, y, rfl, hb1, hy, c2⟩ := G1.first h0
        have hi0 : (0 : Int) < (l.length : Int) := by omega
        clear G1
        cases q with
        | none =>
          rw [lstep_none hy] at hst
          have HS := hide hst
          simp only [D.lv, Option.isSome_none]
          clear hst hy
          go_wp2
          go_round
          case rel => exact ⟨k + 1, some y, by omega, by go_num, rfl, rfl, unhide HS⟩
          case measure => simp [intOf]; omega
        | some u =>
          rw [lstep_some hy] at hst
          simp only [D.lv, Option.isSome_some]
          cases hyu : K.lt y u with
          | true =>
            rw [hyu, if_pos rfl] at hst
            have HS := hide hst
            have hyu' : Op.bytesLess y.toList u.toList = true := hyu
            clear hst hy hyu
            go_wp2
            go_round
            case rel => exact ⟨k + 1, some y, by omega, by go_num, rfl, rfl, unhide HS⟩
            case measure => simp [intOf]; omega
          | false =>
            rw [hyu, if_neg (by simp)] at hst
            have HS := hide hst
            have hyu' : Op.bytesLess y.toList u.toList = false := hyu
            clear hst hy hyu
            go_wp2
            go_round
            case rel => exact ⟨k + 1, some u, by omega, by go_num, rfl, rfl, unhide HS⟩
            case measure => simp [intOf]; omega
      · rw [lstep_nil h0] at hst
        have HS := hide hst
        have hi0 : ¬ (0 : Int) < (l.length : Int) := by omega
        clear hst G1
        go_wp2
        go_round
        case rel => exact ⟨k + 1, q, by omega, by go_num, rfl, rfl, unhide HS⟩
        case measure => simp [intOf]; omega
    · have HE : Hid (q = o) := by
        show _ = _
        rw [← unhide HQ, List.take_of_length_le (by omega)]
        exact unhide HO
      clear ho
      go_wp2
      go_ret2
      exact ⟨by rw [← unhide HE]; rfl, rfl⟩

/-! ### pass -/

/-- The first k lists are behind the word. -/
def D.passTo (x : ByteArray) (k : Nat) (ls : List (List ByteArray)) : List (List ByteArray) := (ls.take k).map (D.pass1 x) ++ ls.drop k

theorem D.passTo_at {x : ByteArray} {k : Nat} {ls : List (List ByteArray)} {l : List ByteArray} (h : ls[k]? = some l) : (D.passTo x k ls)[k]? = some l := by
  unfold D.passTo
  have hk := (List.getElem?_eq_some_iff.1 h).1
  rw [List.getElem?_append_right (by simp; omega)]
  simp only [List.length_map, List.length_take, List.getElem?_drop]
  rw [show k + (k - min k ls.length) = k by omega]
  exact h
theorem D.passTo_succ {x : ByteArray} {k : Nat} {ls : List (List ByteArray)} {l : List ByteArray} (h : ls[k]? = some l) : D.passTo x (k + 1) ls = (D.passTo x k ls).set k (D.pass1 x l) := by
  unfold D.passTo
  obtain ⟨hk, rfl⟩ := List.getElem?_eq_some_iff.1 h
  have hl : ((ls.take k).map (D.pass1 x)).length = k := by simp; omega
  rw [List.set_append_right _ _ (by omega), hl, Nat.sub_self, List.drop_eq_getElem_cons hk, List.set_cons_zero, List.take_succ_eq_append_getElem hk, List.map_append, List.append_assoc]
  rfl
theorem D.passTo_all {x : ByteArray} {k : Nat} {ls : List (List ByteArray)} (h : ls.length ≤ k) : D.passTo x k ls = D.pass x ls := by
  unfold D.passTo D.pass
  rw [List.take_of_length_le h, List.drop_eq_nil_of_le h, List.append_nil]
theorem D.passTo_len (x : ByteArray) (k : Nat) (ls : List (List ByteArray)) : (D.passTo x k ls).length = ls.length := by
  unfold D.passTo
  simp
  omega
theorem D.set_same {α : Type} {l : List α} {k : Nat} {x : α} (h : l[k]? = some x) : l.set k x = l := by
  obtain ⟨hk, rfl⟩ := List.getElem?_eq_some_iff.1 h
  exact List.set_getElem_self hk

/-- Rows of other elements stay. -/
def Keeps (B : Nat) (e : TypeId) (w w' : World) : Prop := ∀ (e' : TypeId) (v : Value) (n : Nat) (xs : List Value), e' ≠ e → w.ownsRow B e' 1 v n xs → w'.ownsRow B e' 1 v n xs

theorem own_froz {α : Type} {f : α → Value} {w : World} {B : Nat} {e : TypeId} {g n cap : Nat} {l : List α} (h : w.ownsRow B e 1 (.slice (some ⟨g, 0, none⟩) n cap) l.length (l.map f)) (hn : n = l.length) (j : Nat) : w.frozen? ⟨g, j, none⟩ = false := by
  subst hn
  exact h.frozenAt j

set_option maxHeartbeats 2000000 in
theorem pass_any (v : Value) (us : List (Option Addr × Nat × Nat)) (ls : List (List ByteArray)) (y : ByteArray) (w0 w : World) (hown0 : w.ownsRow w0.heap.size 22 1 v us.length (us.map sv)) (ha : As w0 us ls) (hb0 : Below w0.heap.size w0 w) :
    Calls Try.prog 30 #[v, .string y] w fun e w' => e = .returned (.tuple #[]) ∧ ∃ us', us'.length = us.length ∧ w'.ownsRow w0.heap.size 22 1 v us'.length (us'.map sv) ∧ As w0 us' (D.pass y ls) ∧ Below w0.heap.size w0 w' ∧ Keeps w0.heap.size 22 w w' := by
  obtain ⟨a, cap, hv, hl, hm, hna, -⟩ := (Gl.owned hown0).open
  subst hv
  have hul := ha.1
  go_enter Try.func30, Try.ntmps30
  go_wp2
  go_loopw [8] (fun iv wr => ∃ (k : Nat) (us' : List (Option Addr × Nat × Nat)), k ≤ us.length ∧ iv = .int .i64 k ∧ us'.length = us.length ∧ wr.ownsRow w0.heap.size 22 1 (.slice a us.length cap) us'.length (us'.map sv) ∧ As w0 us' (D.passTo y k ls) ∧ Below w0.heap.size w0 wr ∧ Keeps w0.heap.size 22 w wr) (fun iv _ => us.length - (intOf iv).toNat)
  case atStart => exact ⟨0, us, Nat.zero_le _, rfl, rfl, hown0, by simpa [D.passTo] using ha, hb0, fun _ _ _ _ _ h => h⟩
  case round =>
    obtain ⟨k, us', hk, rfl, hus, hown, has, hbel, hkp⟩ := hrel
    by_cases hlt : k < us.length
    · obtain ⟨l, hx⟩ : ∃ l, ls[k]? = some l := ⟨ls[k]'(by omega), List.getElem?_eq_getElem _⟩
      obtain ⟨s, hs⟩ : ∃ s, us'[k]? = some s := ⟨us'[k]'(by omega), List.getElem?_eq_getElem _⟩
      have G0 := has.2 k s l hs (D.passTo_at hx)
      obtain ⟨x, c, hsv, -⟩ := id G0
      rcases id hown.2 with ⟨e, h0⟩ | ⟨g, cap', cur, e, hbg, hg, hnc, hcm, hcs, htk⟩
      · omega
      simp only [Value.slice.injEq] at e
      obtain ⟨rfl, -, rfl⟩ := e
      have c1 := own_at hown hus.symm hs
      have fz := own_froz hown hus.symm k
      rw [hsv] at c1 G0
      have hp := D.passTo_succ (x := y) hx
      have G1 := G0.below hbel
      have HUS := hide hus
      have HAS := hide has
      have HKP := hide hkp
      have HX := hide hx
      have hbs : w0.heap.size ≤ g := hbg
      clear hg htk hcs hcm hnc hs hsv hus has hkp hx
      by_cases h0 : 0 < l.length
      · obtain ⟨b1, off1, z, rfl, hb1, hz, c2⟩ := G1.first h0
        have hi0 : (0 : Int) < (l.length : Int) := by omega
        have hq := @K.eq_to z y
        by_cases hzy : z = y
        · have hb2 : (z.toList == y.toList) = true := by rw [hq]; simpa using hzy
          have hpt : D.pass1 y l = l.drop 1 := by
            cases l with
            | nil => simp at h0
            | cons u l => simp at hz; subst hz; simp [D.pass1, hzy]
          have hcut := G0.cut 1 l.length (by omega) (by omega)
          rw [drop_take_all, ← hpt] at hcut
          have hsl := run_st_from (some ⟨b1, off1, none⟩) l.length c 1 (by omega)
          obtain ⟨s2, hs2⟩ : ∃ s2, sliced (some ⟨b1, off1, none⟩) 1 l.length c 1 = sv s2 := ⟨(_, _, _), rfl⟩
          obtain ⟨s2a, s2n, s2c⟩ := s2
          rw [hs2] at hcut
          have hsl : ∀ w : World, (Instr.slice 22 (.slice (some ⟨b1, off1, none⟩) l.length c) (some (.int .i64 1)) none none).run Try.prog w = .ok (.slice s2a s2n s2c) w := fun w => (hsl w).trans (by rw [hs2]; rfl)
          have HS := hide ((unhide HAS).set k hcut)
          rw [← hp] at HS
          have O9 := own_put hown (unhide HUS).symm k (s2a, s2n, s2c)
          have K9 : Keeps w0.heap.size 22 w (wr.setCell ⟨g, k, none⟩ (sv (s2a, s2n, s2c))) := fun e' v' n' xs' hne h' => own_other hown (unhide HKP e' v' n' xs' hne h') (Ne.symm hne) (fun j _ hj => Below.heap_setCell wr _ _ j (by intro e; apply hj; simp [Value.ownBlock, e]))
          have HO9 := hide O9
          have HK9 := hide K9
          clear hp hcut hs2 hq hzy hpt G0 G1 hz O9 K9
          go_wp2
          go_roundw
          case rel => exact ⟨k + 1, us'.set k (s2a, s2n, s2c), by omega, by go_num, by rw [List.length_set]; exact unhide HUS, unhide HO9, unhide HS, hbel.setCell hbs _, unhide HK9⟩
          case measure => simp [intOf]; omega
        · have hb2 : (z.toList == y.toList) = false := by rw [hq]; simpa using hzy
          have HP : Hid (D.passTo y (k + 1) ls = D.passTo y k ls) := by
            show _ = _
            rw [hp]
            have : D.pass1 y l = l := by
              cases l with
              | nil => rfl
              | cons u l => simp at hz; subst hz; simp [D.pass1, hzy]
            rw [this]
            exact D.set_same (D.passTo_at (unhide HX))
          clear hp hq hzy G0 G1 hz
          go_wp2
          go_roundw
          case rel => exact ⟨k + 1, us', by omega, by go_num, unhide HUS, hown, by rw [unhide HP]; exact unhide HAS, hbel, unhide HKP⟩
          case measure => simp [intOf]; omega
      · have hi0 : ¬ (0 : Int) < (l.length : Int) := by omega
        have HP : Hid (D.passTo y (k + 1) ls = D.passTo y k ls) := by
          show _ = _
          rw [hp]
          have : D.pass1 y l = l := by
            have : l = [] := List.eq_nil_of_length_eq_zero (by omega)
            subst this
            rfl
          rw [this]
          exact D.set_same (D.passTo_at (unhide HX))
        clear hp G0 G1
        go_wp2
        go_roundw
        case rel => exact ⟨k + 1, us', by omega, by go_num, unhide HUS, hown, by rw [unhide HP]; exact unhide HAS, hbel, unhide HKP⟩
        case measure => simp [intOf]; omega
    · rw [D.passTo_all (by omega)] at has
      go_wp2
      go_end0
      exact ⟨rfl, us', hus, hown, has, hbel, hkp⟩
end Go.Proofs.Ytgiefkeophobhaa
