/-
  Texts put together: PlainT8, Box8, Cards13, Terms8, First13, Same13, RMay13, AllSame13.
-/
import Derived.Test.YtefnkbgkcjhkoaaQ10
import Derived.Test.YtefnkbgkcjhkoaaQ11
import Derived.Maps.OwnOps
import Derived.Test.YtefnkbgkcjhkoaaQ08
import Derived.BigQuiet
/-
  Where words stand, place by place, and rows of words with their postings of the call's own ('St'). No function of the program is named here.
-/
namespace Go.Proofs.Ytefnkbgkcjhkoaa
set_option maxRecDepth 100000
open Go.RowKit Go.WideMaps Go.Maps

namespace S
theorem posts_snoc (l : List Cd) (c : Cd) (t : ByteArray) : posts (l ++ [c]) t = posts l t ++ if places c.w t = [] then [] else [((l.length : Int), places c.w t)] := by
  unfold posts
  rw [pst_app]
  simp [pst]

theorem beh_step {l : List Cd} {id : ByteArray} {key : Int} {ws : List ByteArray} {j : Nat} {t : ByteArray} (h : ws[j]? = some t) :
    behind ((posts (l ++ [⟨id, key, ws.take j⟩]) t).map pt) l.length j = (posts (l ++ [⟨id, key, ws.take (j + 1)⟩]) t).map pt := by
  have hs := places_step h t
  rw [if_pos rfl] at hs
  rw [posts_snoc, posts_snoc]
  simp only [hs]
  by_cases hp : places (ws.take j) t = []
  · rw [hp, if_pos rfl, if_neg (by simp), List.append_nil, List.nil_append]
    rcases List.eq_nil_or_concat (posts l t) with e | ⟨init, p, e⟩
    · rw [e]; rfl
    · rw [List.concat_eq_append] at e
      rw [e, List.map_append, List.map_append, List.map_append]
      have hm : p ∈ posts l t := by rw [e]; simp
      obtain ⟨d, c, hd, rfl, -⟩ := mem_posts.1 hm
      have hdl := (List.getElem?_eq_some_iff.1 hd).1
      exact behind_new (l := init.map pt) (p := pt ((d : Int), places c.w t)) (by show (d : Int) ≠ _; omega)
  · rw [if_neg hp, if_neg (by simp), List.map_append, List.map_append]
    exact behind_old (l := (posts l t).map pt) (p := pt ((l.length : Int), places (ws.take j) t)) rfl

theorem oth_step {l : List Cd} {id : ByteArray} {key : Int} {ws : List ByteArray} {j : Nat} {t x : ByteArray} (h : ws[j]? = some x) (hne : x ≠ t) :
    posts (l ++ [⟨id, key, ws.take (j + 1)⟩]) t = posts (l ++ [⟨id, key, ws.take j⟩]) t := by
  have hs := places_step h t
  rw [if_neg hne, List.append_nil] at hs
  rw [posts_snoc, posts_snoc]
  simp only [hs]

theorem posts_none {l : List Cd} {id : ByteArray} {key : Int} {t : ByteArray} {ws : List ByteArray} : posts (l ++ [⟨id, key, ws.take 0⟩]) t = posts l t := by
  rw [posts_snoc]
  simp [places, plc]
theorem posts_sizes {l : List Cd} {t : ByteArray} {p : Int × List Int} (h : p ∈ posts l t) (hw : ∀ c ∈ l, c.w.length ≤ 1000) : p.2.length ≤ 1000 := by
  obtain ⟨j, c, hj, rfl, -⟩ := mem_posts.1 h
  exact Nat.le_trans (places_len _ _) (hw c (List.mem_of_getElem? hj))
end S

abbrev Tx := ByteArray × Pts × List (Pt × Pts)
def encS (x : Tx) : List Value := [.string x.1, sv x.2.1]
theorem encS_len (x : Tx) : (encS x).length = 2 := rfl
theorem encS_one (x : Tx) : ∀ u ∈ encS x, u.oneCell' = true := by
  intro u hu
  simp only [encS, List.mem_cons, List.not_mem_nil, or_false] at hu
  rcases hu with rfl | rfl <;> rfl

theorem flat_set {α : Type} {f : α → List Value} {k : Nat} (hk : ∀ y, (f y).length = k) {u : Value} {y' : α} : ∀ {l : List α} {i j : Nat} {y : α}, l[i]? = some y → j < k → f y' = (f y).set j u → (l.flatMap f).set (i * k + j) u = (l.set i y').flatMap f
  | [], i, j, y, h, _, _ => by simp at h
  | z :: l, i, j, y, h, hj, hf => by
    cases i with
    | zero =>
      simp at h
      subst h
      rw [List.flatMap_cons, List.set_cons_zero, List.flatMap_cons, hf, Nat.zero_mul, Nat.zero_add, List.set_append_left _ _ (by rw [hk]; exact hj)]
    | succ i =>
      rw [List.flatMap_cons, List.set_cons_succ, List.flatMap_cons, List.set_append_right _ _ (by rw [hk, Nat.add_mul, Nat.one_mul]; omega), hk, show (i + 1) * k + j - k = i * k + j by rw [Nat.add_mul, Nat.one_mul]; omega]
      rw [flat_set hk (by simpa using h) hj hf]

/-- Postings of many words, all apart. -/
def St (B : Nat) (w : World) (st : List Tx) : Prop := (∀ x ∈ st, Own8 B w x.2.1 x.2.2) ∧ ∀ (i j : Nat) (x y : Tx), i ≠ j → st[i]? = some x → st[j]? = some y → ∀ k, Bl x.2.1 x.2.2 k → ¬ Bl y.2.1 y.2.2 k

theorem St.keep {B : Nat} {w w' : World} {st : List Tx} (h : St B w st) (hk : ∀ x ∈ st, ∀ k, Bl x.2.1 x.2.2 k → w'.heap[k]? = w.heap[k]?) : St B w' st := ⟨fun x hx => (h.1 x hx).keep (hk x hx), h.2⟩
theorem St.below {B : Nat} {w w' : World} {st : List Tx} (h : St B w st) (hb : Below w.heap.size w w') : St B w' st := h.keep fun x hx k hk => hb.block k ((h.1 x hx).lt hk).2

theorem St.step {B : Nat} {w w' : World} {st : List Tx} {i : Nat} {t : ByteArray} {s s' : Pts} {qs qs' : List (Pt × Pts)} (h : St B w st) (hi : st[i]? = some (t, s, qs)) (ho : Own8 B w' s' qs') (hb : ∀ j, Bl s' qs' j → Bl s qs j ∨ w.heap.size ≤ j) (hk : Kept (Bl s qs) w w') : St B w' (st.set i (t, s', qs')) := by
  obtain ⟨hil, hie⟩ := List.getElem?_eq_some_iff.1 hi
  have key : ∀ (j : Nat) (x : Tx), (st.set i (t, s', qs'))[j]? = some x → (j = i ∧ x = (t, s', qs')) ∨ (j ≠ i ∧ st[j]? = some x) := by
    intro j x hx
    by_cases e : i = j
    · subst e
      rw [List.getElem?_set_self hil] at hx
      exact .inl ⟨rfl, (Option.some.inj hx).symm⟩
    · rw [List.getElem?_set_ne e] at hx
      exact .inr ⟨fun e' => e e'.symm, hx⟩
  refine ⟨fun x hx => ?_, fun a b x y hab hx hy k hbx hby => ?_⟩
  · obtain ⟨j, hj, hjx⟩ := List.mem_iff_getElem.1 hx
    rcases key j x (by rw [List.getElem?_eq_getElem hj, hjx]) with ⟨-, rfl⟩ | ⟨hne, hjs⟩
    · exact ho
    · have hx' := List.mem_of_getElem? hjs
      refine (h.1 x hx').keep fun k hk' => hk.2 k ((h.1 x hx').lt hk').2 fun hm => ?_
      exact h.2 j i x (t, s, qs) hne hjs hi k hk' hm
  · rcases key a x hx with ⟨rfl, rfl⟩ | ⟨hna, hax⟩
    · rcases key b y hy with ⟨rfl, -⟩ | ⟨hnb, hby'⟩
      · exact hab rfl
      · rcases hb k hbx with h1 | h1
        · exact h.2 _ _ _ _ hab hi hby' k h1 hby
        · have := ((h.1 y (List.mem_of_getElem? hby')).lt hby).2
          omega
    · rcases key b y hy with ⟨rfl, rfl⟩ | ⟨hnb, hby'⟩
      · rcases hb k hby with h1 | h1
        · exact h.2 _ _ _ _ hab hax hi k hbx h1
        · have := ((h.1 x (List.mem_of_getElem? hax)).lt hbx).2
          omega
      · exact h.2 _ _ _ _ hab hax hby' k hbx hby

/-- No block of postings is one of words. -/
theorem Own8.far {B B' : Nat} {w : World} {s : Pts} {qs : List (Pt × Pts)} (h : Own8 B w s qs) {v : Value} {n g : Nat} {xs : List Value} (ho : w.ownsRow B' 79 2 v n xs) (hg : v.ownBlock = some g) {k : Nat} (hk : Bl s qs k) : k ≠ g := by
  intro e
  subst e
  rcases hk with hk | ⟨q, hq, hk⟩
  · rcases own_apart h.1 ho (by decide) with h1 | h1
    · rw [h1] at hk; cases hk
    · exact h1 (by rw [hk, hg])
  · rcases own_apart (h.2.1 q hq) ho (by decide) with h1 | h1
    · rw [h1] at hk; cases hk
    · exact h1 (by rw [hk, hg])

theorem map_keep {H : Type} {P : Program} {k : TypeId} {R : Value → Option (DataW H × List MemPlace)} {w w' : World} {b n : Nat} {D : DataW H} (h : w.ownsMap P k R b n D) (hb : w'.heap[b]? = w.heap[b]?) : w'.ownsMap P k R b n D := by
  obtain ⟨es, clock, h1, r⟩ := h
  exact ⟨es, clock, hb.trans h1, r⟩

/-- The words, in their order, with the postings of the cards l. -/
def Cur (st : List Tx) (ws : List ByteArray) (l : List Cd) : Prop := st.length = ws.length ∧ ∀ (j : Nat) (x : Tx), st[j]? = some x → ws[j]? = some x.1 ∧ x.2.2.map (·.1) = (S.posts l x.1).map S.pt

def toT (x : Tx) : Tm × Pts := (⟨x.1, x.2.2.map (·.1)⟩, x.2.1)
theorem flat_toT (st : List Tx) : st.flatMap encS = (st.map toT).flatMap encT := by
  rw [List.flatMap_map]
  rfl

theorem Cur.ts {B B' n : Nat} {w : World} {v : Value} {st : List Tx} {ws : List ByteArray} {l : List Cd} (h : Cur st ws l) (hs : St B w st) (ho : w.ownsRow B' 79 2 v n (st.flatMap encS)) : Ts w v (ws.map (S.term l)) := by
  rw [flat_toT] at ho
  have := Ts.own ho (fun p hp => by
    obtain ⟨x, hx, rfl⟩ := List.mem_map.1 hp
    exact (hs.1 x hx).pl)
  have e : (st.map toT).map (·.1) = ws.map (S.term l) := by
    apply List.ext_getElem?
    intro j
    rw [List.map_map, List.getElem?_map, List.getElem?_map]
    cases hj : st[j]? with
    | none =>
      have : ws[j]? = none := by rw [List.getElem?_eq_none_iff] at hj ⊢; have := h.1; omega
      rw [this]; rfl
    | some x =>
      obtain ⟨h1, h2⟩ := h.2 j x hj
      rw [h1]
      simp only [Option.map_some, Function.comp, toT, S.term, h2]
  rw [e] at this
  exact this

/-- Words with the postings of the cards l, in rows of the call's own. -/
def TS (B : Nat) (w : World) (v : Value) (ws : List ByteArray) (l : List Cd) : Prop := ∃ st, Cur st ws l ∧ St B w st ∧ w.ownsRow B 79 2 v ws.length (st.flatMap encS)
theorem TS.ts {B : Nat} {w : World} {v : Value} {ws : List ByteArray} {l : List Cd} (h : TS B w v ws l) : Ts w v (ws.map (S.term l)) := by
  obtain ⟨st, h1, h2, h3⟩ := h
  exact h1.ts h2 h3
theorem TS.below {B : Nat} {w w' : World} {v : Value} {ws : List ByteArray} {l : List Cd} (h : TS B w v ws l) (hb : Below w.heap.size w w') : TS B w' v ws l := by
  obtain ⟨st, h1, h2, h3⟩ := h
  exact ⟨st, h1, h2.below hb, own_below h3 hb⟩
/-- A store below the rows leaves them. -/
theorem TS.set {B : Nat} {w : World} {v : Value} {ws : List ByteArray} {l : List Cd} (h : TS B w v ws l) {p : Addr} (hp : p.block < B) (u : Value) : TS B (w.setCell p u) v ws l := by
  obtain ⟨st, h1, h2, h3⟩ := h
  refine ⟨st, h1, h2.keep fun x hx k hk => Below.heap_setCell w p u k fun e => ?_, own_set h3 (fun k hk e => ?_) u⟩
  · have := ((h2.1 x hx).lt hk).1
    omega
  · have := (h3.lt k hk).1
    omega

theorem Cur.step {st : List Tx} {ws : List ByteArray} {l : List Cd} {id : ByteArray} {key : Int} {cw : List ByteArray} {j i : Nat} {t : ByteArray} {s s' : Pts} {qs qs' : List (Pt × Pts)} (h : Cur st ws (l ++ [⟨id, key, cw.take j⟩])) (hr : D.Rise ws) (hw : cw[j]? = some t) (hi : st[i]? = some (t, s, qs))
    (hq : qs'.map (·.1) = S.behind (qs.map (·.1)) l.length j) : Cur (st.set i (t, s', qs')) ws (l ++ [⟨id, key, cw.take (j + 1)⟩]) := by
  obtain ⟨hil, hie⟩ := List.getElem?_eq_some_iff.1 hi
  refine ⟨by simp [h.1], fun a x hx => ?_⟩
  by_cases e : i = a
  · subst e
    rw [List.getElem?_set_self hil] at hx
    obtain rfl := Option.some.inj hx
    obtain ⟨h1, h2⟩ := h.2 i _ hi
    refine ⟨h1, ?_⟩
    simp only at h2 ⊢
    rw [hq, h2]
    exact S.beh_step hw
  · rw [List.getElem?_set_ne e] at hx
    obtain ⟨h1, h2⟩ := h.2 a x hx
    refine ⟨h1, ?_⟩
    rw [S.oth_step hw, h2]
    rintro rfl
    have e1 : D.bel ws x.1 = i := D.bel_self hr (h.2 i _ hi).1
    have e2 := D.bel_self hr h1
    omega

/-- The map tells where each of the first k words stands. -/
def Nums (M : DataW Unit) (ws : List ByteArray) (k : Nat) : Prop := IsMap M ∧ ∀ (j : Nat) (t : ByteArray), j < k → ws[j]? = some t → M.atKey (.string t.data.toList) (.lit (.int .i64 0)) = .lit (.int .i64 j)
theorem Nums.start (ws : List ByteArray) : Nums (.map []) ws 0 := ⟨isMap_empty, fun j t hj => by omega⟩
theorem Nums.step {M : DataW Unit} {ws : List ByteArray} {k : Nat} {x : ByteArray} (h : Nums M ws k) (hr : D.Rise ws) (hx : ws[k]? = some x) : Nums (M.put (.string x.data.toList) (.lit (.int .i64 k))) ws (k + 1) := by
  refine ⟨h.1.put _ _, fun j t hj ht => ?_⟩
  by_cases e : j = k
  · subst e
    rw [hx] at ht
    cases ht
    rw [atKey_put_same h.1 (by simp [WideAt.IsKeyLit])]
  · rw [atKey_put_other (lit_ne ?_)]
    · exact h.2 j t (by omega) ht
    · rintro rfl
      have e1 := D.bel_self hr ht
      have e2 := D.bel_self hr hx
      omega

/-- 'numbers[word]': where the word stands. -/
theorem lookup_num {ops : Array Oper} {rest : List Oper} {o : Oper} {a : Act} {Q : Exit → Act → World → Prop} {w : World} {b n j : Nat} {M : DataW Unit} {ws : List ByteArray} {t : ByteArray} (hg : o.guard = none) (m x : Operand) (hop : o.op = Op.lookup 76 m x false) (hm : a.eval m = .map (some b))
    (ho : w.ownsMap Try.prog 9 (plainElem Try.prog 3) b n M) (hN : Nums M ws n) (hj : ws[j]? = some t) (hjn : j < n) (ht : t.size ≤ maxLen) (hx : a.eval x = .string t)
    (hK : wpList Try.prog ops Q rest (a.put o.dst (.int .i64 (j : Int))) w) : wpList Try.prog ops Q (o :: rest) a w := by
  refine wpList_lookup_own_int _ hg m x _ hop 9 3 .i64 keyed9 Try.underlying76 Try.underlying3 (zero3 _) b n M hm ho _ _ hx (keyOf_string_mk Try.underlying9 ht) ?_
  intro c hc _
  rw [hN.2 j t hjn hj] at hc
  simp only [DataW.lit.injEq, Lit.int.injEq, true_and] at hc
  rw [← hc]
  exact hK
end Go.Proofs.Ytefnkbgkcjhkoaa

/-
  A segment that is being made: its box, and the rows of ids, keys and lengths ('Bx'). No function of the program is named here.
-/
namespace Go.Proofs.Ytefnkbgkcjhkoaa
set_option maxRecDepth 100000
open Go.RowKit

theorem bset {w : World} {g : Nat} {cs : Array Value} {T : TypeId} (h : w.heap[g]? = some (.cells cs T (0, 0))) (j : Nat) (u : Value) : (w.setCell ⟨g, j, none⟩ u).heap[g]? = some (.cells (cs.setIfInBounds j u) T (0, 0)) := by
  simp [World.setCell, Array.getElem?_modify, h]
theorem bfro {w : World} {g : Nat} {cs : Array Value} {T : TypeId} (h : w.heap[g]? = some (.cells cs T (0, 0))) (j : Nat) : w.frozen? ⟨g, j, none⟩ = false := by simp [World.frozen?, h]
theorem bfar {w : World} {g : Nat} {o : Obj} (h : w.heap[g]? = some o) {p : Addr} (hp : g ≠ p.block) (u : Value) : (w.setCell p u).heap[g]? = some o := by rw [Below.heap_setCell w p u g hp]; exact h

def Bx (S : Nat) (w : World) (iv kv lv tv : Value) (so : Bool) (ids : List ByteArray) (keys lens : List Int) : Prop :=
  w.heap[S]? = some (.cells #[iv, kv, lv, tv, .bool so] 44 (0, 0)) ∧ w.ownsRow (S + 1) 9 1 iv ids.length (ids.map Value.string) ∧ w.ownsRow (S + 1) 3 1 kv keys.length (keys.map (Value.int .i64)) ∧ w.ownsRow (S + 1) 3 1 lv lens.length (lens.map (Value.int .i64)) ∧ Far kv lv

theorem Bx.below {S : Nat} {w w' : World} {iv kv lv tv : Value} {so : Bool} {ids : List ByteArray} {keys lens : List Int} (h : Bx S w iv kv lv tv so ids keys lens) (hb : Below w.heap.size w w') : Bx S w' iv kv lv tv so ids keys lens :=
  ⟨box_below h.1 hb, own_below h.2.1 hb, own_below h.2.2.1 hb, own_below h.2.2.2.1 hb, h.2.2.2.2⟩

theorem Far.symm {v x : Value} (h : Far v x) : Far x v := fun k hk e => h k e hk

theorem row_ne {w : World} {S : Nat} {e : TypeId} {k n : Nat} {v : Value} {xs : List Value} (h : w.ownsRow (S + 1) e k v n xs) : some S ≠ v.ownBlock := fun e => by have := (h.lt S e.symm).1; omega
theorem row_set {w : World} {S : Nat} {e : TypeId} {k n : Nat} {v : Value} {xs : List Value} (h : w.ownsRow (S + 1) e k v n xs) (j : Nat) (u : Value) : (w.setCell ⟨S, j, none⟩ u).ownsRow (S + 1) e k v n xs :=
  own_set h (fun b hb e => by have := (h.lt b hb).1; simp only at e; omega) u

theorem Bx.ids {S g n cap : Nat} {wr w1 : World} {iv kv lv tv : Value} {so : Bool} {ids : List ByteArray} {keys lens : List Int} {x : ByteArray} (h : Bx S wr iv kv lv tv so ids keys lens)
    (ho : w1.ownsRow (S + 1) 9 1 (.slice (some ⟨g, 0, none⟩) n cap) (ids ++ [x]).length ((ids ++ [x]).map Value.string)) (hg : wr.grownBy w1 iv.ownBlock) :
    Bx S (w1.setCell ⟨S, 0, none⟩ (.slice (some ⟨g, 0, none⟩) n cap)) (.slice (some ⟨g, 0, none⟩) n cap) kv lv tv so (ids ++ [x]) keys lens :=
  ⟨bset (box_grown h.1 hg (row_ne h.2.1)) 0 _, row_set ho 0 _, row_set (h.2.2.1.kept hg (own_apart h.2.2.1 h.2.1 (by decide))) 0 _, row_set (h.2.2.2.1.kept hg (own_apart h.2.2.2.1 h.2.1 (by decide))) 0 _, h.2.2.2.2⟩

theorem Bx.keys {S g n cap : Nat} {wr w1 : World} {iv kv lv tv : Value} {so : Bool} {ids : List ByteArray} {keys lens : List Int} {x : Int} (h : Bx S wr iv kv lv tv so ids keys lens)
    (ho : w1.ownsRow (S + 1) 3 1 (.slice (some ⟨g, 0, none⟩) n cap) (keys ++ [x]).length ((keys ++ [x]).map (Value.int .i64))) (hg : wr.grownBy w1 kv.ownBlock) (hl : kv.ownBlock = some g ∨ wr.heap.size ≤ g) :
    Bx S (w1.setCell ⟨S, 1, none⟩ (.slice (some ⟨g, 0, none⟩) n cap)) iv (.slice (some ⟨g, 0, none⟩) n cap) lv tv so ids (keys ++ [x]) lens := by
  refine ⟨bset (box_grown h.1 hg (row_ne h.2.2.1)) 1 _, row_set (h.2.1.kept hg (own_apart h.2.1 h.2.2.1 (by decide))) 1 _, row_set ho 1 _, row_set (h.2.2.2.2.kept h.2.2.2.1 hg) 1 _, fun b hb e => ?_⟩
  simp [Value.ownBlock] at hb
  subst hb
  rcases hl with hl | hl
  · exact h.2.2.2.2 _ hl e
  · have := (h.2.2.2.1.lt _ e).2
    omega

theorem Bx.lens {S g n cap : Nat} {wr w1 : World} {iv kv lv tv : Value} {so : Bool} {ids : List ByteArray} {keys lens : List Int} {x : Int} (h : Bx S wr iv kv lv tv so ids keys lens)
    (ho : w1.ownsRow (S + 1) 3 1 (.slice (some ⟨g, 0, none⟩) n cap) (lens ++ [x]).length ((lens ++ [x]).map (Value.int .i64))) (hg : wr.grownBy w1 lv.ownBlock) (hl : lv.ownBlock = some g ∨ wr.heap.size ≤ g) :
    Bx S (w1.setCell ⟨S, 2, none⟩ (.slice (some ⟨g, 0, none⟩) n cap)) iv kv (.slice (some ⟨g, 0, none⟩) n cap) tv so ids keys (lens ++ [x]) := by
  refine ⟨bset (box_grown h.1 hg (row_ne h.2.2.2.1)) 2 _, row_set (h.2.1.kept hg (own_apart h.2.1 h.2.2.2.1 (by decide))) 2 _, row_set (h.2.2.2.2.symm.kept h.2.2.1 hg) 2 _, row_set ho 2 _, fun b hb e => ?_⟩
  simp [Value.ownBlock] at e
  subst e
  rcases hl with hl | hl
  · exact h.2.2.2.2 _ hb hl
  · have := (h.2.2.1.lt _ hb).2
    omega

/-- What stays behind an append to one of the rows and a store into the box. -/
theorem Bx.grow {S : Nat} {w0 wr w1 : World} {e : TypeId} {n j : Nat} {v u : Value} {xs : List Value} (ho : wr.ownsRow (S + 1) e 1 v n xs) (hb : Below S w0 wr) (hS : S ≤ wr.heap.size) (hg : wr.grownBy w1 v.ownBlock) : Below S w0 (w1.setCell ⟨S, j, none⟩ u) :=
  (hb.grown hg hS (fun k hk => by have := (ho.lt k hk).1; omega)).setCell (Nat.le_refl _) _
theorem card_grow {S b : Nat} {wr w1 : World} {cs : Array Value} {e : TypeId} {n j : Nat} {v u : Value} {xs : List Value} (hc : wr.heap[b]? = some (.cells cs 30 (0, 0))) (ho : wr.ownsRow (S + 1) e 1 v n xs) (he : 30 ≠ e) (hg : wr.grownBy w1 v.ownBlock) (hb : b ≠ S) : (w1.setCell ⟨S, j, none⟩ u).heap[b]? = some (.cells cs 30 (0, 0)) :=
  bfar (box_grown hc hg (own_ne_box ho hc he)) hb _
end Go.Proofs.Ytefnkbgkcjhkoaa

/-
  Cards in a row of the call's own whose words are its own, too ('CO'); the contracts of ownCard and own.
-/
namespace Go.Proofs.Ytefnkbgkcjhkoaa
set_option maxRecDepth 100000
open Go.RowKit

/-- The words of a card lie in a row of the call's own. -/
def Wo (B : Nat) (w : World) (p : Cd × Pts) : Prop := w.ownsRow B 9 1 (sv p.2) p.1.w.length (p.1.w.map Value.string)
theorem Wo.gl {B : Nat} {w : World} {p : Cd × Pts} (h : Wo B w p) : Gl .string w (sv p.2) p.1.w := Gl.owned h
theorem Wo.below {B : Nat} {w w' : World} {p : Cd × Pts} (h : Wo B w p) (hb : Below w.heap.size w w') : Wo B w' p := own_below h hb
/-- Cards in a row of the call's own, each with words of its own. -/
def CO (B : Nat) (w : World) (v : Value) (ps : List (Cd × Pts)) : Prop := w.ownsRow B 30 3 v ps.length (ps.flatMap encC) ∧ ∀ p ∈ ps, Wo B w p
theorem CO.nil (B : Nat) (w : World) : CO B w (.slice none 0 0) [] := ⟨World.ownsRow_nil _ _ _ _, fun p hp => by cases hp⟩
theorem CO.below {B : Nat} {w w' : World} {v : Value} {ps : List (Cd × Pts)} (h : CO B w v ps) (hb : Below w.heap.size w w') : CO B w' v ps := ⟨own_below h.1 hb, fun p hp => (h.2 p hp).below hb⟩
theorem CO.cs {B : Nat} {w : World} {v : Value} {ps : List (Cd × Pts)} (h : CO B w v ps) : Cs w v (ps.map (·.1)) := ⟨ps, Kl.owned encC_len (by decide) h.1, rfl, fun p hp => (h.2 p hp).gl⟩
theorem CO.csL {B : Nat} {w : World} {v : Value} {ps : List (Cd × Pts)} {L : List Cd} (h : CO B w v ps) (hL : ps.map (·.1) = L) : Cs w v L := hL ▸ h.cs
theorem CO.shape {B : Nat} {w : World} {v : Value} {ps : List (Cd × Pts)} {L : List Cd} (h : CO B w v ps) (hL : ps.map (·.1) = L) : ∃ a c, v = .slice a L.length c := by
  have hl : ps.length = L.length := by rw [← hL, List.length_map]
  rcases h.1.2 with ⟨rfl, h0⟩ | ⟨g, cap, cur, rfl, _⟩
  · exact ⟨none, 0, by rw [← hl, h0]⟩
  · exact ⟨_, _, by rw [hl]⟩
/-- What is stored into the row turns no word. -/
theorem Wo.kept {B B' : Nat} {w w' : World} {p : Cd × Pts} {v : Value} {n : Nat} {xs : List Value} (h : Wo B w p) (o : w.ownsRow B' 30 3 v n xs) (hg : w.grownBy w' v.ownBlock) : Wo B w' p := World.ownsRow.kept h hg (own_apart h o (by decide))

/-- 'out = append(out, y)', however long the row is. -/
theorem append_one13 {α : Type} {f : α → List Value} {k : Nat} {P : Program} {ops : Array Oper} {rest : List Oper} {o : Oper} {a : Act} {Q : Exit → Act → World → Prop} {wr : World} (hgd : o.guard = none) (s x : Operand) (t : TypeId)
    (ho : o.op = .call { callee := .builtin .append, args := #[s, x], argTypes := #[t, t] }) {B : Nat} {e : TypeId} {i : TypeInfo} {z : Value} {bytes : Nat}
    (ht : P.underlying t = some (.slice e)) (hi : P.info? e = some i) (hz : i.zero = some z) (hsize : i.size = k) (hby : i.bytes = bytes) (hzs : z.cells.size = k) (hk0 : 0 < k)
    (hk : ∀ y, (f y).length = k) (hf : ∀ y, ∀ u ∈ f y, u.oneCell' = true) {pre : List α} (y : α) {cs : Array Value} (hcs : cs.toList = f y) {v : Value} (hs : a.eval s = v) {n : Nat} (hx : a.eval x = .slice (some ⟨n, 0, none⟩) 1 1) (hn : n = wr.heap.size)
    (hown : wr.ownsRow B e k v pre.length (pre.flatMap f)) (hB : B ≤ wr.heap.size) (hlen : (pre.length + 1) * bytes ≤ 140737488355328) (hlen2 : pre.length < 140737488355328)
    (h : ∀ g cap w', w'.ownsRow B e k (.slice (some ⟨g, 0, none⟩) (pre.length + 1) cap) (pre ++ [y]).length ((pre ++ [y]).flatMap f) → wr.grownBy w' v.ownBlock → (v.ownBlock = some g ∨ wr.heap.size ≤ g) → wpList P ops Q rest (a.put o.dst (.slice (some ⟨g, 0, none⟩) (pre.length + 1) cap)) w') :
    wpList P ops Q (o :: rest) a (wr.alloc (.cells cs e)) := by
  subst hn
  refine wpList_append_lies _ hgd s x t ho B e i z k bytes ht hi hz hsize hby hzs hk0 v pre.length _ hs (hown.alloc _) ⟨wr.heap.size, 0, none⟩ 1 1 (f y) hx (by rw [hk, Nat.one_mul]) ?_ (hf y) (by omega) ?_ hlen ?_ (wr.heap.size + 1) (by simp) ?_
  · intro j u hj
    have : cs[j]? = some u := by rw [← Array.getElem?_toList, hcs]; exact hj
    rw [Addr.add_lit, Nat.zero_add]
    exact box_cell (heap_alloc_new wr _) this
  · unfold maxLen; omega
  · simp; omega
  · intro g cap w1 hown' hg hat _
    refine h g cap w1 (by simpa using hown') ((World.grownBy_alloc _ _ _).trans hg) ?_
    rcases hat with h1 | h1
    · exact .inl h1
    · exact .inr (by omega)

/-- 'append(out, xs...)' at texts, however many. -/
theorem append_all13 {P : Program} {ops : Array Oper} {rest : List Oper} {o : Oper} {a : Act} {Q : Exit → Act → World → Prop} {wr : World} (hgd : o.guard = none) (s x : Operand) (t : TypeId)
    (ho : o.op = .call { callee := .builtin .append, args := #[s, x], argTypes := #[t, t] }) {B : Nat} {e : TypeId} {i : TypeInfo} {z : Value} {bytes : Nat}
    (ht : P.underlying t = some (.slice e)) (hi : P.info? e = some i) (hz : i.zero = some z) (hsize : i.size = 1) (hby : i.bytes = bytes) (hzs : z.cells.size = 1)
    {zs : List ByteArray} {v u : Value} (hs : a.eval s = v) (hx : a.eval x = u) (hu : Gl .string wr u zs)
    (hown : wr.ownsRow B e 1 v 0 []) (hB : B ≤ wr.heap.size) (hlen : zs.length * bytes ≤ 140737488355328) (hlen2 : zs.length ≤ 140737488355328)
    (h : ∀ v' w', w'.ownsRow B e 1 v' zs.length (zs.map Value.string) → wr.grownBy w' v.ownBlock → wpList P ops Q rest (a.put o.dst v') w') :
    wpList P ops Q (o :: rest) a wr := by
  obtain ⟨ao, cap, rfl, hl, hm, hn, hc⟩ := hu
  cases ao with
  | none =>
    have hcap := hn rfl
    subst hcap
    have hz0 : zs = [] := List.eq_nil_of_length_eq_zero (by omega)
    subst hz0
    refine wpList_append_own_none hgd s x t ho B e i 1 ht hi v 0 _ hs hown hx ?_
    exact h v wr hown ⟨rfl, rfl, rfl, Nat.le_refl _, fun _ _ _ => rfl⟩
  | some ad =>
    refine wpList_append_own _ hgd s x t ho B e i z 1 bytes ht hi hz hsize hby hzs (by decide) v 0 _ hs hown ad zs.length cap (zs.map Value.string) hx (by simp) ?_ ?_ ?_ ?_ hB ?_
    · intro j y hj
      rw [List.getElem?_map] at hj
      obtain ⟨b, hb, rfl⟩ := Option.map_eq_some_iff.1 hj
      exact hc ad rfl j b hb
    · intro u hu
      obtain ⟨y, _, rfl⟩ := List.mem_map.1 hu
      rfl
    · unfold maxLen; omega
    · rw [Nat.zero_add]; exact hlen
    · intro v' w1 hown' hg _
      exact h v' w1 (by simpa using hown') hg

set_option maxHeartbeats 1000000 in
theorem cloneS_any (v : Value) (l : List ByteArray) (w : World) (h : Gl .string w v l) (hll : l.length * 16 ≤ 140737488351232) :
    Calls Try.prog 51 #[v] w fun e w' => ∃ v', e = .returned v' ∧ w'.ownsRow w.heap.size 9 1 v' l.length (l.map Value.string) ∧ Below w.heap.size w w' := by
  obtain ⟨i0, hi, hz0, hz1, hz2⟩ := info_parts Try.infoS
  have H := h
  obtain ⟨a, cap, rfl, hl, hm, hna, -⟩ := h
  have q : ∀ (w : World) (a : Option Addr) (n c n' c' : Nat), (binOp .eql 28 (.slice a n c) (.slice none n' c')).run Try.prog w = .ok (.bool a.isNone) w := fun w a n c n' c' => Lib.run_eql_slice_nil w _ _ a n c n' c' Try.underlying28
  cases a with
  | none =>
    have hl0 : l = [] := List.eq_nil_of_length_eq_zero (by have := hna rfl; omega)
    subst hl0
    clear H
    go_enter Try.func51, Try.ntmps51
    go_wp2
    go_ret
    exact ⟨_, rfl, World.ownsRow_nil _ _ _ _, Below.refl _ _⟩
  | some x =>
    have H1 := H.below (below_alloc w (.cells #[] 9))
    have O1 := World.ownsRow_made (base := w.heap.size) (e := 9) (size := 1) w #[] 0 (Nat.le_refl _) (Nat.zero_le _) rfl
    have HK1 := hide H1
    clear H H1
    go_enter Try.func51, Try.ntmps51
    go_wp2_with (at_builtin; refine append_all13 rfl _ _ 28 rfl Try.underlying28 hi hz0 hz1 hz2 rfl rfl rfl (unhide HK1) O1 (by simp) (by omega) (by omega) ?_; intro v1 w1 O2 g2)
    go_ret
    exact ⟨_, rfl, O2, (below_alloc _ _).grown g2 (by simp) (fun j hj => (O1.lt j hj).1)⟩

/-- The stores of ownCard. -/
def four13 (w : World) (p : Nat) (c : Cd) (v : Value) : World := (((w.setCell ⟨p, 2, none⟩ v).setCell ⟨p + 1, 0, none⟩ (.string c.id)).setCell ⟨p + 1, 1, none⟩ (.int .i64 c.key)).setCell ⟨p + 1, 2, none⟩ v
theorem four13_below {w w1 : World} {p : Nat} (c : Cd) (v : Value) (h : Below w.heap.size w w1) (hb : w.heap.size ≤ p) : Below w.heap.size w (four13 w1 p c v) :=
  (((h.setCell hb _).setCell (p := ⟨p + 1, 0, none⟩) (by simp; omega) _).setCell (p := ⟨p + 1, 1, none⟩) (by simp; omega) _).setCell (p := ⟨p + 1, 2, none⟩) (by simp; omega) _
theorem own_four13 {w : World} {B p : Nat} {e : TypeId} {k n : Nat} {v : Value} {xs : List Value} (h : w.ownsRow B e k v n xs) (hb : p + 1 < B) (c : Cd) (u : Value) : (four13 w p c u).ownsRow B e k v n xs := by
  have key : ∀ (w : World) (b j : Nat) (u : Value), b < B → w.ownsRow B e k v n xs → (w.setCell ⟨b, j, none⟩ u).ownsRow B e k v n xs := fun w b j u hb h => own_set h (fun g hg e => by have := (h.lt g hg).1; have := (h.lt g hg).2; simp only at e; omega) u
  exact key _ _ _ _ (by omega) (key _ _ _ _ (by omega) (key _ _ _ _ (by omega) (key _ _ _ _ (by omega) h)))

set_option maxRecDepth 100000 in
set_option maxHeartbeats 2000000 in
theorem ownCard_any (c : Cd) (wa : Option Addr) (wc : Nat) (w : World) (h : Gl .string w (.slice wa c.w.length wc) c.w) (hll : c.w.length * 16 ≤ 140737488351232) :
    Calls Try.prog 35 #[.agg #[.string c.id, .int .i64 c.key, .slice wa c.w.length wc]] w fun e w' => ∃ a' c', e = .returned (.agg #[.string c.id, .int .i64 c.key, .slice a' c.w.length c']) ∧ Wo w.heap.size w' (c, (a', c.w.length, c')) ∧ Below w.heap.size w w' := by
  obtain ⟨W, hW⟩ : ∃ W, W = (w.alloc (.cells #[.string c.id, .int .i64 c.key, .slice wa c.w.length wc] 30)).alloc (.cells #[.string ⟨#[]⟩, .int .i64 0, .slice none 0 0] 30) := ⟨_, rfl⟩
  have BW : Below w.heap.size w W := by rw [hW]; exact below_all (below_alloc _ _) _
  have zW : W.heap.size = w.heap.size + 2 := by rw [hW]; simp
  have X0 : W.heap[w.heap.size]? = some (.cells #[.string c.id, .int .i64 c.key, .slice wa c.w.length wc] 30 (0, 0)) := by
    rw [hW]; exact box_below (heap_alloc_new w _) (below_alloc _ _)
  have X1 : W.heap[w.heap.size + 1]? = some (.cells #[.string ⟨#[]⟩, .int .i64 0, .slice none 0 0] 30 (0, 0)) := by
    rw [hW]
    have := heap_alloc_new (w.alloc (.cells #[.string c.id, .int .i64 c.key, .slice wa c.w.length wc] 30)) (.cells #[.string ⟨#[]⟩, .int .i64 0, .slice none 0 0] 30)
    simpa using this
  have CC := cloneS_any _ _ W (h.below BW) hll
  have x2 := box_cell X0 (j := 2) rfl
  have HX0 := hide X0
  have HX1 := hide X1
  have HW := hide hW
  have HZ := hide zW
  have HBW := hide BW
  clear X0 X1 hW zW BW h
  go_enter Try.func35, Try.ntmps35
  go_wp2_with fail
  rw [← unhide HW]
  go_wp2_with fail
  refine CC.mono ?_
  rintro e w1 ⟨v1, rfl, O1, B1⟩
  obtain ⟨a1, c1, hv1⟩ : ∃ a1 c1, v1 = .slice a1 c.w.length c1 := by
    rcases O1.2 with ⟨h, h0⟩ | ⟨g, cap, cur, h, _⟩
    · exact ⟨none, 0, by rw [h, h0]⟩
    · exact ⟨_, _, h⟩
  subst hv1
  have Y0 := box_below (unhide HX0) B1
  have Y1 := box_below (unhide HX1) B1
  have y0 := box_cell Y0 (j := 0) rfl
  have y1 := box_cell Y0 (j := 1) rfl
  have y2 := box_cell Y0 (j := 2) rfl
  have f2 := bfro Y0 2
  have z0 := box_cell Y1 (j := 0) rfl
  have z1 := box_cell Y1 (j := 1) rfl
  have z2 := box_cell Y1 (j := 2) rfl
  have g0 := bfro Y1 0
  have g1 := bfro Y1 1
  have g2 := bfro Y1 2
  have hsz : W.heap.size = w.heap.size + 2 := unhide HZ
  have BB := below_trans' (unhide HBW) B1
  have HE : Hid (Wo w.heap.size (four13 w1 w.heap.size c (.slice a1 c.w.length c1)) (c, (a1, c.w.length, c1)) ∧ Below w.heap.size w (four13 w1 w.heap.size c (.slice a1 c.w.length c1))) := by
    refine ⟨?_, four13_below _ _ BB (Nat.le_refl _)⟩
    have := own_four13 O1 (p := w.heap.size) (by omega) c (.slice a1 c.w.length c1)
    exact ⟨this.1, by
      rcases this.2 with h | ⟨g, cap, cur, h1, h2, h3⟩
      · exact .inl h
      · exact .inr ⟨g, cap, cur, h1, by omega, h3⟩⟩
  clear O1 BB CC B1 Y0 Y1 hsz x2
  unfold four13 at HE
  go_wp2
  exact bodyPost_ret (v := .agg #[.string c.id, .int .i64 c.key, .slice a1 c.w.length c1]) (by simp [results, Try.results35, go_sem, z0, z1, z2]) rfl ⟨a1, c1, rfl, unhide HE⟩

set_option maxRecDepth 100000 in
set_option maxHeartbeats 4000000 in
theorem own13_any (v : Value) (L : List Cd) (w : World) (h : Cs w v L) (hll : L.length * 48 ≤ 140737488351232) (hws : ∀ c ∈ L, c.w.length * 16 ≤ 140737488351232) :
    Calls Try.prog 34 #[v] w fun e w' => ∃ v' ps, e = .returned v' ∧ ps.map (·.1) = L ∧ CO w.heap.size w' v' ps ∧ Below w.heap.size w w' := by
  obtain ⟨i0, hi, hz0, hz1, hz2⟩ := info_parts Try.infoC
  have H := h
  obtain ⟨a, cap, rfl, hl, hm, hna, -⟩ := h.open
  have HWS := hide hws
  have HLL := hide hll
  have hlb : L.length ≤ 2932031007317 := by omega
  clear h hws hll
  go_enter Try.func34, Try.ntmps34
  go_wp2
  go_loopw [3, 8] (fun ov iv wr => ∃ (k : Nat) (ps : List (Cd × Pts)), k ≤ L.length ∧ iv = .int .i64 k ∧ ps.length ≤ k ∧ Hid (ps.map (·.1) = L.take k) ∧ Hid (CO w.heap.size wr ov ps) ∧ Below w.heap.size w wr) (fun _ iv _ => L.length - (intOf iv).toNat)
  case atStart => exact ⟨0, [], Nat.zero_le _, rfl, Nat.le_refl _, rfl, hide (CO.nil _ _), Below.refl _ _⟩
  case round =>
    obtain ⟨k, ps, hk, rfl, hpl, HP, HC, hbel⟩ := hrel
    by_cases hlt : k < L.length
    · have H1 := H.below hbel
      obtain ⟨a', cap', hv', -, -, -, ho⟩ := H1.open
      simp only [Value.slice.injEq, true_and] at hv'
      obtain ⟨rfl, rfl⟩ := hv'
      obtain ⟨b, off, rfl, hb, hc⟩ := ho (by omega)
      obtain ⟨c, hx⟩ : ∃ c, L[k]? = some c := ⟨L[k], List.getElem?_eq_getElem hlt⟩
      obtain ⟨wa, wc, c0, c1, c2, G0⟩ := hc k c hx
      have HTS := hide (take_snoc8 hx)
      have hw16 := unhide HWS c (List.mem_of_getElem? hx)
      obtain ⟨W, hW⟩ : ∃ W, W = wr.alloc (.cells #[.string c.id, .int .i64 c.key, .slice wa c.w.length wc] 30) := ⟨_, rfl⟩
      have BW : Below wr.heap.size wr W := by rw [hW]; exact below_alloc _ _
      have CC := ownCard_any c wa wc W (G0.below BW) hw16
      have BW2 := below_trans' hbel BW
      have hbs := BW2.size
      have HC1 := hide ((unhide HC).below BW)
      have d0 : W.cell? ⟨wr.heap.size, 0, none⟩ = some (.string c.id) := by rw [hW]; exact box_cell (heap_alloc_new wr _) rfl
      have d1 : W.cell? ⟨wr.heap.size, 1, none⟩ = some (.int .i64 c.key) := by rw [hW]; exact box_cell (heap_alloc_new wr _) rfl
      have d2 : W.cell? ⟨wr.heap.size, 2, none⟩ = some (.slice wa c.w.length wc) := by rw [hW]; exact box_cell (heap_alloc_new wr _) rfl
      have HW := hide hW
      clear ho hc hx H1 G0 hW hbel HC BW hw16
      go_wp2_with fail
      rw [← unhide HW]
      go_wp2_with fail
      refine CC.mono ?_
      rintro e w2 ⟨a2, c2', rfl, W2, B2⟩
      have BB := below_trans' BW2 B2
      have C2 := (unhide HC1).below B2
      have O2 := C2.1
      have hB2 := BB.size
      have HW2 := hide W2
      have HC2 := hide C2
      clear CC B2 BW2 W2 C2 HC1 d0 d1 d2 c0 c1 c2
      go_wp2_with (at_builtin; refine append_one13 (f := encC) rfl _ _ 22 rfl Try.underlying22 hi hz0 hz1 hz2 rfl (by decide) encC_len encC_one (pre := ps) (c, (a2, c.w.length, c2')) rfl rfl rfl rfl O2 (by omega) (by omega) (by omega) ?_; intro g9 c9 w9 O9 g9' l9)
      have B9 : Below w.heap.size w w9 := BB.grown g9' hB2 (fun j hj => (O2.lt j hj).1)
      have HC9 : Hid (CO w.heap.size w9 (.slice (some ⟨g9, 0, none⟩) (ps.length + 1) c9) (ps ++ [(c, (a2, c.w.length, c2'))])) := hide ⟨O9, fun p hp => by
        rcases List.mem_append.1 hp with hp | hp
        · exact ((unhide HC2).2 p hp).kept O2 g9'
        · simp only [List.mem_cons, List.not_mem_nil, or_false] at hp
          subst hp
          have h9 : Wo w.heap.size w2 (c, (a2, c.w.length, c2')) := by
            have h8 := unhide HW2
            refine ⟨h8.1, ?_⟩
            rcases h8.2 with h | ⟨g, cap, cur, h1, h2, h3⟩
            · exact .inl h
            · exact .inr ⟨g, cap, cur, h1, by omega, h3⟩
          exact h9.kept O2 g9'⟩
      have HP9 : Hid ((ps ++ [(c, ((a2, c.w.length, c2') : Pts))]).map (·.1) = L.take (k + 1)) := by
        show _ = _
        rw [unhide HTS, List.map_append, unhide HP]; rfl
      have hl9 : (ps ++ [(c, ((a2, c.w.length, c2') : Pts))]).length ≤ k + 1 := by simp; omega
      clear O9 g9' l9 O2
      go_roundw
      case rel => exact ⟨k + 1, ps ++ [(c, ((a2, c.w.length, c2') : Pts))], by omega, by go_num, hl9, HP9, HC9, B9⟩
      case measure => simp [intOf]; omega
    · have HF : ps.map (·.1) = L := by rw [unhide HP, List.take_of_length_le (by omega)]
      go_wp2
      go_ret
      exact ⟨_, ps, rfl, HF, unhide HC, hbel⟩
end Go.Proofs.Ytefnkbgkcjhkoaa

/-
  The contract of terms: the words, with where they stand in the cards.
-/
namespace Go.Proofs.Ytefnkbgkcjhkoaa
set_option maxRecDepth 100000
open Go.RowKit Go.WideMaps Go.Maps

set_option maxRecDepth 100000 in
set_option maxHeartbeats 4000000 in
theorem terms_any (v u : Value) (L : List Cd) (ws : List ByteArray) (w : World) (h : Cs w v L) (hg : Gl .string w u ws) (hr : D.Rise ws) (hll : L.length ≤ 64) (hwl : ws.length ≤ 200) (hcw : ∀ c ∈ L, c.w.length ≤ 120) (hin : ∀ c ∈ L, ∀ x ∈ c.w, x ∈ ws) (hz : ∀ x ∈ ws, x.size ≤ 32) :
    Calls Try.prog 49 #[v, u] w fun e w' => ∃ v', e = .returned v' ∧ TS (w.heap.size + 1) w' v' ws L ∧ Below w.heap.size w w' := by
  obtain ⟨i0, hi, hz0, hz1, hz2⟩ := info_parts Try.infoT
  obtain ⟨a, cap, rfl, hl, hm, hna, ho1⟩ := h.open
  obtain ⟨a2, cap2, rfl, hl2, hm2, hna2, ho2⟩ := hg.open
  have HR := hide hr
  have HIN := hide hin
  have hmm := @run_makeMap Try.prog
  clear h hg hr hin
  go_enter Try.func49, Try.ntmps49
  go_wp2
  go_loopw [6, 17] (fun ov iv wr => ∃ (k : Nat) (M : DataW Unit) (st : List Tx), k ≤ ws.length ∧ iv = .int .i64 k ∧ Hid (st = (ws.take k).map (fun t => (t, ((none, 0, 0) : Pts), ([] : List (Pt × Pts))))) ∧ st.length ≤ 200 ∧ wr.ownsMap Try.prog 9 (plainElem Try.prog 3) w.heap.size k M ∧ Hid (Nums M ws k) ∧ wr.ownsRow (w.heap.size + 1) 79 2 ov st.length (st.flatMap encS) ∧ Below w.heap.size w wr ∧ w.heap.size + 1 ≤ wr.heap.size) (fun _ iv _ => ws.length - (intOf iv).toNat)
  case atStart => exact ⟨0, _, [], Nat.zero_le _, rfl, rfl, by simp, World.ownsMap_made _ _ _ _, Nums.start ws, World.ownsRow_nil _ _ _ _, below_alloc _ _, by simp⟩
  case round =>
    obtain ⟨k, M, st, hk, rfl, HS, hsl, hown, HN, hrow, hbel, hws⟩ := hrel
    by_cases hlt : k < ws.length
    · obtain ⟨x, hx⟩ : ∃ x, ws[k]? = some x := ⟨ws[k], List.getElem?_eq_getElem hlt⟩
      obtain ⟨b, off, rfl, hb, hc⟩ := ho2 (by omega)
      have d0 := (hbel.cell (p := ⟨b, off + k, none⟩) hb).trans (hc k x hx)
      have hns : x.size ≤ maxLen := by have := hz x (List.mem_of_getElem? hx); unfold maxLen; omega
      have hkey : keyOf Try.prog 9 (.string x) = some (.string x.data.toList) := keyOf_string_mk Try.underlying9 hns
      have hbs := hbel.size
      have HN2 := hide ((unhide HN).step (unhide HR) hx)
      have HTS := hide (take_snoc8 hx)
      have hst : st.length < 200 := by have := unhide HS; rw [this]; simp; omega
      clear hc ho2 hx hsl
      go_wp2_with (at_mapUpdate; refine wpList_mapUpdate_own _ rfl _ _ _ 76 rfl 9 3 keyed9 Try.underlying76 _ w.heap.size k _ rfl hown (by unfold maxLen; omega) _ _ _ rfl rfl hkey _ [] (plainElem_int Try.underlying3 (WalkArith.wf_i64 (by omega))) ?_)
      intro w1 hown1 hgrow1
      have B1 := hbel.grown hgrow1 (by omega) (fun j hj => by cases hj; exact Nat.le_refl _)
      have O1 := hrow.kept hgrow1 (by
        cases hv : u6.ownBlock with
        | none => exact .inl rfl
        | some q => exact .inr (by have := (hrow.lt q hv).1; simp; omega))
      have hs1 : w.heap.size + 1 ≤ w1.heap.size := Nat.le_trans hws hgrow1.size
      clear hgrow1 hrow hown hbel d0
      go_wp2_with (at_builtin; refine append_oneF rfl _ _ 42 rfl Try.underlying42 hi hz0 hz1 hz2 rfl (by decide) encS_len encS_one (pre := st) (v := u6) (x, (none, 0, 0), []) rfl rfl rfl (by simp) O1 (by omega) (by omega) (by decide) ?_; intro g2 cap3 w2 O2 g2' l2)
      have B2 := B1.grown g2' (by omega) (fun j hj => by have := (O1.lt j hj).1; omega)
      have M2 := hown1.kept g2' (by intro e; have := (O1.lt _ e.symm).1; omega)
      have hs2 := Nat.le_trans hs1 g2'.size
      clear g2' l2 O1 B1 hown1
      go_wp2
      go_roundw
      case rel =>
        refine ⟨k + 1, _, st ++ [(x, (none, 0, 0), [])], by omega, by go_num, ?_, by simp; omega, M2, unhide HN2, O2, B2, hs2⟩
        show _ = _
        rw [unhide HTS, List.map_append, ← unhide HS]
        rfl
      case measure => simp [intOf]; omega
    · have hkl : k = ws.length := by omega
      subst hkl
      have HC : Hid (Cur st ws (L.take 0)) := by
        have e := unhide HS
        rw [List.take_length] at e
        refine ⟨by rw [e]; simp, fun j x hx => ?_⟩
        rw [e, List.getElem?_map] at hx
        obtain ⟨t, ht, rfl⟩ := Option.map_eq_some_iff.1 hx
        exact ⟨ht, rfl⟩
      have hst : St (w.heap.size + 1) wr st := by
        have e := unhide HS
        refine ⟨fun x hx => ?_, fun i j x y _ hx hy q hq => ?_⟩
        · rw [e] at hx
          obtain ⟨t, -, rfl⟩ := List.mem_map.1 hx
          exact Own8.nil _ _
        · rw [e, List.getElem?_map] at hx
          obtain ⟨t, -, rfl⟩ := Option.map_eq_some_iff.1 hx
          rcases hq with hq | ⟨q', hq', -⟩
          · cases hq
          · cases hq'
      have hrow : wr.ownsRow (w.heap.size + 1) 79 2 u6 ws.length (st.flatMap encS) := by rw [← (unhide HC).1]; exact hrow
      clear HS hsl ho2
      rename World => w0
      go_wp2
      go_loopw [33] (fun iv wr => ∃ (i : Nat) (st : List Tx), i ≤ L.length ∧ iv = .int .i64 i ∧ Hid (Cur st ws (L.take i)) ∧ St (w.heap.size + 1) wr st ∧ wr.ownsMap Try.prog 9 (plainElem Try.prog 3) w.heap.size ws.length M ∧ wr.ownsRow (w.heap.size + 1) 79 2 u6 ws.length (st.flatMap encS) ∧ Below w.heap.size w wr ∧ w.heap.size + 1 ≤ wr.heap.size) (fun iv _ => L.length - (intOf iv).toNat)
      case atStart => exact ⟨0, st, Nat.zero_le _, rfl, HC, hst, hown, hrow, hbel, hws⟩
      case round =>
        clear hown hrow hbel hws hst HC
        obtain ⟨i, st1, hil, rfl, HC, hst, hown, hrow, hbel, hws⟩ := hrel
        by_cases hlt : i < L.length
        · obtain ⟨b, off, rfl, hb, hc⟩ := ho1 (by omega)
          obtain ⟨c, hx⟩ : ∃ c, L[i]? = some c := ⟨L[i], List.getElem?_eq_getElem hlt⟩
          obtain ⟨wa, wc, c0, c1, c2, G0⟩ := hc i c hx
          have d0 := (hbel.cell (p := ⟨b, off + i * 3, none⟩) hb).trans c0
          have d1 := (hbel.cell (p := ⟨b, off + i * 3 + 1, none⟩) hb).trans c1
          have d2 := (hbel.cell (p := ⟨b, off + i * 3 + 2, none⟩) hb).trans c2
          have hcl := hcw c (List.mem_of_getElem? hx)
          have HX := hide hx
          have HC0 : Hid (Cur st1 ws (L.take i ++ [⟨c.id, c.key, c.w.take 0⟩])) := ⟨(unhide HC).1, fun j x hx => by rw [S.posts_none]; exact (unhide HC).2 j x hx⟩
          have BC := below_all hbel (.cells #[.string c.id, .int .i64 c.key, .slice wa c.w.length wc] 30)
          have BC' := below_alloc wr (.cells #[.string c.id, .int .i64 c.key, .slice wa c.w.length wc] 30)
          have hstC := hst.below BC'
          have hownC := hown.alloc (.cells #[.string c.id, .int .i64 c.key, .slice wa c.w.length wc] 30)
          have hrowC := hrow.alloc (.cells #[.string c.id, .int .i64 c.key, .slice wa c.w.length wc] 30)
          have hwsC : w.heap.size + 1 ≤ (wr.alloc (.cells #[.string c.id, .int .i64 c.key, .slice wa c.w.length wc] 30)).heap.size := by simp; omega
          obtain ⟨wa', wc', hv', -, -, -, hoW⟩ := G0.open
          simp only [Value.slice.injEq, true_and] at hv'
          obtain ⟨rfl, rfl⟩ := hv'
          rename World => w9
          clear hc c0 c1 c2 hx hst hown hrow hbel hws HC BC'
          go_wp2
          go_loopw [41] (fun iv wr => ∃ (j : Nat) (st : List Tx), j ≤ c.w.length ∧ iv = .int .i64 j ∧ Hid (Cur st ws (L.take i ++ [⟨c.id, c.key, c.w.take j⟩])) ∧ St (w.heap.size + 1) wr st ∧ wr.ownsMap Try.prog 9 (plainElem Try.prog 3) w.heap.size ws.length M ∧ wr.ownsRow (w.heap.size + 1) 79 2 u6 ws.length (st.flatMap encS) ∧ Below w.heap.size w wr ∧ w.heap.size + 1 ≤ wr.heap.size) (fun iv _ => c.w.length - (intOf iv).toNat)
          case atStart => exact ⟨0, st1, Nat.zero_le _, rfl, HC0, hstC, hownC, hrowC, BC, hwsC⟩
          case round =>
            clear hownC hrowC hwsC hstC HC0 BC
            obtain ⟨j, st2, hjl, rfl, HC, hst, hown, hrow, hbel, hws⟩ := hrel
            by_cases hlt2 : j < c.w.length
            · obtain ⟨x, hx⟩ : ∃ x, c.w[j]? = some x := ⟨c.w[j], List.getElem?_eq_getElem hlt2⟩
              obtain ⟨b1, off1, rfl, hb1, hc1⟩ := hoW (by omega)
              have e0 := (hbel.cell (p := ⟨b1, off1 + j, none⟩) hb1).trans (hc1 j x hx)
              obtain ⟨n, hn⟩ : ∃ n, ws[n]? = some x := by
                obtain ⟨n, hn, e⟩ := List.mem_iff_getElem.1 (unhide HIN c (List.mem_of_getElem? (unhide HX)) x (List.mem_of_getElem? hx))
                exact ⟨n, by rw [List.getElem?_eq_getElem hn, e]⟩
              have hnl := (List.getElem?_eq_some_iff.1 hn).1
              obtain ⟨⟨x', ⟨sa, sn, sc⟩, qs⟩, hsn⟩ : ∃ y, st2[n]? = some y := ⟨st2[n]'(by rw [(unhide HC).1]; exact hnl), List.getElem?_eq_getElem _⟩
              obtain ⟨hx', hqp⟩ := (unhide HC).2 n _ hsn
              simp only at hx' hqp
              obtain rfl : x' = x := by rw [hn] at hx'; exact (Option.some.inj hx').symm
              have hO := hst.1 _ (List.mem_of_getElem? hsn)
              simp only at hO
              obtain rfl : sn = qs.length := own_n hO.1
              have hns : x'.size ≤ maxLen := by have := hz x' (List.mem_of_getElem? hn); unfold maxLen; omega
              have hq1 : qs.length ≤ 1000 := by
                have e := congrArg List.length hqp
                simp only [List.length_map] at e
                have := S.posts_len (L.take i ++ [⟨c.id, c.key, c.w.take j⟩]) x'
                simp at this
                omega
              have hq2 : ∀ q ∈ qs, q.1.a.length ≤ 1000 := by
                intro q hq
                have hm9 : q.1 ∈ (S.posts (L.take i ++ [⟨c.id, c.key, c.w.take j⟩]) x').map S.pt := by rw [← hqp]; exact List.mem_map_of_mem hq
                obtain ⟨p, hp, hpe⟩ := List.mem_map.1 hm9
                rw [← hpe]
                refine S.posts_sizes hp fun c' hc' => ?_
                rcases List.mem_append.1 hc' with h9 | h9
                · have := hcw c' (List.mem_of_mem_take h9); omega
                · simp only [List.mem_singleton] at h9
                  subst h9
                  simp
                  omega
              obtain ⟨gA, capA, hu6, hbA, hlA⟩ := hrow.form (by omega)
              subst hu6
              have hgA : w.heap.size + 1 ≤ gA := hbA
              have r1 : wr.cell? ⟨gA, n * 2 + 1, none⟩ = some (.slice sa qs.length sc) := by
                have := hrow.cells (g := gA) rfl (n * 2 + 1) _ (by rw [flat_at encS_len hsn 1 (by decide)]; rfl)
                simpa [Addr.add_lit, sv] using this
              have hil2 : i ≤ 64 := by omega
              have CB := behind_any (sa, qs.length, sc) qs i j (w.heap.size + 1) wr hO hws hq1 hq2
              have HN1 := hide hn
              have HSN := hide hsn
              have HXW := hide hx
              have HO := hide hO
              clear hc1 hx hx' hqp hq1 hq2 hn hsn hO
              go_wp2_with (first
                | (at_lookup; refine lookup_num rfl _ _ rfl rfl hown (unhide HN) (unhide HN1) hnl hns rfl ?_)
                | (go_at_call 67; refine CB.mono ?_; rintro e w2 ⟨⟨sa', sn', sc'⟩, qs', rfl, OB, QB, BB, KB⟩
                   have RW2 := own_keep hrow (fun b' hb' => KB.2 b' (hrow.lt b' hb').2 (fun hm => (unhide HO).far hrow hb' hm rfl))
                   have r2 : w2.cell? ⟨gA, n * 2 + 1, none⟩ = some (.slice sa qs.length sc) := by
                     have := RW2.cells (g := gA) rfl (n * 2 + 1) _ (by rw [flat_at encS_len (unhide HSN) 1 (by decide)]; rfl)
                     simpa [Addr.add_lit, sv] using this
                   have f2 : w2.frozen? ⟨gA, n * 2 + 1, none⟩ = false := RW2.frozenAt (n * 2 + 1)
                   simp only [sv]))
              have HQB := hide QB
              have ST2 : St (w.heap.size + 1) (w2.setCell ⟨gA, n * 2 + 1, none⟩ (.slice sa' sn' sc')) (st2.set n (x', (sa', sn', sc'), qs')) := by
                have S2 := hst.step (unhide HSN) OB BB KB
                refine S2.keep fun y hy k hk => Below.heap_setCell w2 _ _ k fun e => ?_
                exact (S2.1 y hy).far RW2 rfl hk e
              have RW3 : (w2.setCell ⟨gA, n * 2 + 1, none⟩ (.slice sa' sn' sc')).ownsRow (w.heap.size + 1) 79 2 (.slice (some ⟨gA, 0, none⟩) ws.length capA) ws.length ((st2.set n (x', (sa', sn', sc'), qs')).flatMap encS) := by
                have := (RW2.stored (n * 2 + 1) (.slice sa' sn' sc')).1
                rw [flat_set encS_len (y' := (x', (sa', sn', sc'), qs')) (unhide HSN) (by decide) rfl] at this
                exact this
              have M3 : (w2.setCell ⟨gA, n * 2 + 1, none⟩ (.slice sa' sn' sc')).ownsMap Try.prog 9 (plainElem Try.prog 3) w.heap.size ws.length M := (map_keep hown (KB.2 _ hown.lt fun hm => by have := ((unhide HO).lt hm).1; omega)).setCell (by show w.heap.size ≠ gA; omega) _
              have B3 : Below w.heap.size w (w2.setCell ⟨gA, n * 2 + 1, none⟩ (.slice sa' sn' sc')) := (hbel.trans (KB.below (by omega) fun k hk => by have := ((unhide HO).lt hk).1; omega)).setCell (by show w.heap.size ≤ gA; omega) _
              have hs3 : w.heap.size + 1 ≤ (w2.setCell ⟨gA, n * 2 + 1, none⟩ (.slice sa' sn' sc')).heap.size := by have := KB.1.size; simp; omega
              clear RW2 r2 f2 OB BB KB hst hrow hown hbel QB
              go_roundw
              case rel =>
                refine ⟨j + 1, _, by omega, by go_num, ?_, ST2, M3, RW3, B3, hs3⟩
                have hli : (L.take i).length = i := by simp; omega
                refine (unhide HC).step (unhide HR) (unhide HXW) (unhide HSN) ?_
                rw [hli]
                exact unhide HQB
              case measure => simp [intOf]; omega
            · have hkl : j = c.w.length := by omega
              go_wp2
              go_roundw
              case rel =>
                refine ⟨i + 1, st2, by omega, by go_num, ?_, hst, hown, hrow, hbel, hws⟩
                have e := unhide HC
                have e2 : c.w.take j = c.w := List.take_of_length_le (by omega)
                rw [e2] at e
                rw [take_snoc8 (unhide HX)]
                exact e
              case measure => simp [intOf]; omega
        · have hkl : i = L.length := by omega
          have HC1 := unhide HC
          rw [List.take_of_length_le (by omega)] at HC1
          have T1 : TS (w.heap.size + 1) wr u6 ws L := ⟨st1, HC1, hst, hrow⟩
          go_wp2
          go_ret
          exact ⟨_, rfl, T1, hbel⟩
end Go.Proofs.Ytefnkbgkcjhkoaa

/-
  The contracts of first, whatever function it is handed, of the two functions that are, and of stand.
-/
namespace Go.Proofs.Ytefnkbgkcjhkoaa
set_option maxRecDepth 100000
open Go.RowKit

theorem stand1_any (c : Cd) (wa : Option Addr) (wc : Nat) (P : Nat) (id : ByteArray) (w : World) (hP : w.cell? ⟨P, 0, none⟩ = some (.string id)) :
    Calls Try.prog 50 #[.agg #[.string c.id, .int .i64 c.key, .slice wa c.w.length wc], .pointer (some ⟨P, 0, none⟩)] w fun e w' => e = .returned (.bool (H.geq id c)) ∧ Below w.heap.size w w' := by
  obtain ⟨W, hW⟩ : ∃ W, W = w.alloc (.cells #[.string c.id, .int .i64 c.key, .slice wa c.w.length wc] 30) := ⟨_, rfl⟩
  have BW : Below w.heap.size w W := by rw [hW]; exact below_alloc _ _
  have c0 : W.cell? ⟨w.heap.size, 0, none⟩ = some (.string c.id) := by rw [hW]; exact box_cell (heap_alloc_new w _) rfl
  have cp := cell_keep hP BW
  have q1 : P < w.heap.size := World.block_lt_of_cell? w _ hP
  have q2 : P ≠ w.heap.size := by omega
  have hR : Hid ((!Op.bytesLess c.id.toList id.toList) = H.geq id c) := rfl
  have HW := hide hW
  clear hW
  go_enter Try.func50, Try.ntmps50
  go_wp2_with fail
  rw [← unhide HW]
  go_wp2
  go_ret
  exact ⟨by rw [← unhide hR]; rfl, BW⟩

theorem byKey1_any (c d : Cd) (wa wb : Option Addr) (na wc nb wd : Nat) (P : Nat) (w : World) (h0 : w.cell? ⟨P, 0, none⟩ = some (.string c.id)) (h1 : w.cell? ⟨P, 1, none⟩ = some (.int .i64 c.key)) (h2 : w.cell? ⟨P, 2, none⟩ = some (.slice wb nb wd)) :
    Calls Try.prog 41 #[.agg #[.string d.id, .int .i64 d.key, .slice wa na wc], .pointer (some ⟨P, 0, none⟩)] w fun e w' => e = .returned (.bool (S.before c d)) ∧ Below w.heap.size w w' := by
  obtain ⟨W, hW⟩ : ∃ W, W = w.alloc (.cells #[.string d.id, .int .i64 d.key, .slice wa na wc] 30) := ⟨_, rfl⟩
  have BW : Below w.heap.size w W := by rw [hW]; exact below_alloc _ _
  have c0 : W.cell? ⟨w.heap.size, 0, none⟩ = some (.string d.id) := by rw [hW]; exact box_cell (heap_alloc_new w _) rfl
  have c1 : W.cell? ⟨w.heap.size, 1, none⟩ = some (.int .i64 d.key) := by rw [hW]; exact box_cell (heap_alloc_new w _) rfl
  have c2 : W.cell? ⟨w.heap.size, 2, none⟩ = some (.slice wa na wc) := by rw [hW]; exact box_cell (heap_alloc_new w _) rfl
  have p0 := cell_keep h0 BW
  have p1 := cell_keep h1 BW
  have p2 := cell_keep h2 BW
  have q1 : P < w.heap.size := World.block_lt_of_cell? w _ h0
  have q2 : P ≠ w.heap.size := by omega
  obtain ⟨r, hr⟩ : ∃ r, S.before c d = r := ⟨_, rfl⟩
  have CB := before_b c d wb wa nb wd na wc W r hr
  rw [hr]
  rw [hW] at p0 p1 p2
  have HW := hide hW
  clear hW hr h0 h1 h2 c0 c1 c2
  go_enter Try.func41, Try.ntmps41
  go_wp2_with fail
  rw [← unhide HW]
  refine CB.mono ?_
  rintro e w1 ⟨rfl, B1⟩
  have BB := below_trans' BW B1
  clear CB p0 p1 p2
  go_wp2
  go_ret
  exact ⟨rfl, BB⟩

set_option maxHeartbeats 2000000 in
theorem first_any (f : Nat) (eg : ∀ args w, (callFunc f args).run Try.prog w = .ok (.enter f args) w) (lb : Array Value) (so : Cd → Bool) (v : Value) (L : List Cd) (w : World) (h : Cs w v L) (hl : L.length ≤ 1000000) (hon : H.Once so L)
    (hcall : ∀ c ∈ L, ∀ wa wc w1, Below w.heap.size w w1 → Calls Try.prog f (#[.agg #[.string c.id, .int .i64 c.key, .slice wa c.w.length wc]] ++ lb) w1 fun e w2 => e = .returned (.bool (so c)) ∧ Below w1.heap.size w1 w2) :
    Calls Try.prog 40 #[v, .func (.func f) #[] lb] w fun e w' => e = .returned (.int .i64 (H.cut so L)) ∧ Below w.heap.size w w' := by
  have H0 := h
  obtain ⟨a, cap, rfl, h1, h2, hna, -⟩ := h.open
  have HC := hide hcall
  have HO := hide (H.cut_low hon)
  have HCL := H.cut_le so L
  obtain ⟨m, hm⟩ : ∃ m, H.cut so L = m := ⟨_, rfl⟩
  rw [hm] at HO HCL
  rw [hm]
  clear h hcall hon hm
  go_enter Try.func40, Try.ntmps40
  go_wp2
  go_loopw [5, 6] (fun av bv wr => ∃ a b : Nat, av = .int .i64 a ∧ bv = .int .i64 b ∧ a ≤ m ∧ m ≤ b ∧ b ≤ L.length ∧ Below w.heap.size w wr) (fun av bv _ => (intOf bv).toNat - (intOf av).toNat)
  case atStart => exact ⟨0, L.length, rfl, rfl, Nat.zero_le _, HCL, Nat.le_refl _, Below.refl _ _⟩
  case round =>
    obtain ⟨x, y, rfl, rfl, hxm, hmy, hyl, hbel⟩ := hrel
    by_cases hlt : x < y
    · obtain ⟨k, hk⟩ : ∃ k, x + (y - x) / 2 = k := ⟨_, rfl⟩
      have hk1 : x ≤ k := by omega
      have hk2 : k < y := by omega
      have hdiv : ((y : Int) - (x : Int)).tdiv 2 = ((y - x) / 2 : Nat) := by
        rw [Int.tdiv_eq_ediv_of_nonneg (by omega)]
        omega
      have hdiv2 : ((y : Int) - (x : Int)) / 2 = ((y - x) / 2 : Nat) := by omega
      obtain ⟨a', c', hv', -, -, -, ho⟩ := (H0.below hbel).open
      simp only [Value.slice.injEq, true_and] at hv'
      obtain ⟨rfl, rfl⟩ := hv'
      obtain ⟨b, off, rfl, hb, hc⟩ := ho (by omega)
      obtain ⟨c, hx⟩ : ∃ c, L[k]? = some c := ⟨L[k], List.getElem?_eq_getElem (by omega)⟩
      obtain ⟨wa, wc, c0, c1, c2, -⟩ := hc k c hx
      have CC := unhide HC c (List.mem_of_getElem? hx) wa wc wr hbel
      have hcut := unhide HO k c hx
      have HK := hide hk
      rw [← hk] at c0 c1 c2
      clear ho hc hx hk
      cases hs : so c with
      | true =>
        have hle : m ≤ k := by
          rcases Nat.lt_or_ge k m with g | g
          · have := hcut.2 g; rw [hs] at this; cases this
          · exact g
        rw [hs] at CC
        clear hs hcut
        go_wp2_with fail
        refine CC.mono ?_
        rintro e w2 ⟨rfl, B2⟩
        have BB := below_trans' hbel B2
        clear B2 CC c0 c1 c2
        go_wp2
        go_roundw
        case rel => exact ⟨x, k, rfl, by rw [← unhide HK]; go_num, hxm, hle, by omega, BB⟩
        case measure => have := unhide HK; simp [intOf]; omega
      | false =>
        have hle : k < m := hcut.1 hs
        rw [hs] at CC
        clear hs hcut
        go_wp2_with fail
        refine CC.mono ?_
        rintro e w2 ⟨rfl, B2⟩
        have BB := below_trans' hbel B2
        clear B2 CC c0 c1 c2
        go_wp2
        go_roundw
        case rel => exact ⟨k + 1, y, by rw [← unhide HK]; go_num, rfl, by omega, hmy, hyl, BB⟩
        case measure => have := unhide HK; simp [intOf]; omega
    · obtain rfl : x = m := by omega
      go_wp2
      go_ret
      exact ⟨rfl, hbel⟩
end Go.Proofs.Ytefnkbgkcjhkoaa

/-
  The contract of Same: are all parts of cards the same, in order?
-/
namespace Go.Proofs.Ytefnkbgkcjhkoaa
set_option maxRecDepth 100000
open Go.RowKit

theorem sameC_iff {a b : Cd} : S.sameC a b = true ↔ a = b := by
  rw [S.sameC, Bool.and_eq_true, Bool.and_eq_true, decide_eq_true_eq, K.eq_to, decide_eq_true_eq, beq_iff_eq]
  constructor
  · rintro ⟨h1, h2, h3⟩
    exact Cd.eq h2 h3 h1
  · rintro rfl
    exact ⟨rfl, rfl, rfl⟩

set_option maxHeartbeats 2000000 in
theorem equalS13_any (va vb : Value) (m q : List ByteArray) (w : World) (ha : Gl .string w va m) (hb : Gl .string w vb q) (r : Bool) (hr : decide (m = q) = r) :
    Calls Try.prog 33 #[va, vb] w fun e w' => e = .returned (.bool r) ∧ Below w.heap.size w w' := by
  obtain ⟨aa, ca, rfl, la, ma, na, oa⟩ := ha.open
  obtain ⟨ab, cb, rfl, lb, mb, nb, ob⟩ := hb.open
  clear ha hb
  have HR := hide hr
  clear hr
  by_cases hl : m.length = q.length
  · have h0 : ((m.length : Int) != (q.length : Int)) = false := by simp [hl]
    have HL := hide hl
    clear hl
    go_enter Try.func33, Try.ntmps33
    go_wp2
    go_loopw [13] (fun i wr => ∃ k n : Nat, k ≤ m.length ∧ i = .int .i64 k ∧ wr = w.drewN n ∧ Hid (m.take k = q.take k)) (fun i _ => m.length - (intOf i).toNat)
    case atStart => exact ⟨0, 0, Nat.zero_le _, rfl, rfl, rfl⟩
    case round =>
      obtain ⟨k, n, hk, rfl, rfl, HT⟩ := hrel
      by_cases hlt : k < m.length
      · have hltb : k < q.length := by have := unhide HL; omega
        obtain ⟨ba, fa, rfl, _, ca⟩ := oa (by omega)
        obtain ⟨bb, fb, rfl, _, cb⟩ := ob (by omega)
        obtain ⟨x, hx⟩ : ∃ x, m[k]? = some x := ⟨m[k], List.getElem?_eq_getElem hlt⟩
        obtain ⟨y, hy⟩ : ∃ y, q[k]? = some y := ⟨q[k], List.getElem?_eq_getElem hltb⟩
        have c1 := ca k x hx
        have c2 := cb k y hy
        have HX := hide hx
        have HY := hide hy
        have hq := @K.eq_to x y
        clear ca cb oa ob hx hy
        by_cases hxy : x = y
        · have hb1 : (x.toList == y.toList) = true := by rw [hq]; simpa using hxy
          have HXY := hide hxy
          clear hxy hq
          go_wp2
          go_quiet (fail)
          go_wp2
          go_roundw
          case rel =>
            refine ⟨k + 1, _, by omega, by go_num, rfl, ?_⟩
            show _ = _
            obtain ⟨_, e1⟩ := List.getElem?_eq_some_iff.1 (unhide HX)
            obtain ⟨_, e2⟩ := List.getElem?_eq_some_iff.1 (unhide HY)
            rw [List.take_succ_eq_append_getElem (by omega), List.take_succ_eq_append_getElem (by omega), unhide HT, e1, e2, unhide HXY]
          case measure => simp [intOf]; omega
        · have hb1 : (x.toList == y.toList) = false := by rw [hq]; simpa using hxy
          have HXY := hide hxy
          clear hxy hq
          go_wp2
          go_quiet (fail)
          go_wp2
          go_ret
          refine ⟨ret_bool ?_, below_dr (below_dr (Below.refl _ _) _) _⟩
          rw [← unhide HR]
          symm
          apply decide_eq_false
          intro e
          have e1 := unhide HX
          rw [e, unhide HY] at e1
          exact unhide HXY (Option.some.inj e1).symm
      · have HX : Hid (r = true) := by
          show _ = _
          have e := unhide HT
          rw [List.take_of_length_le (by omega), List.take_of_length_le (by have := unhide HL; omega)] at e
          rw [← unhide HR, e]
          simp
        clear oa ob
        go_wp2
        go_ret
        exact ⟨ret_bool (unhide HX).symm, below_dr (Below.refl _ _) n⟩
  · have h0 : ((m.length : Int) != (q.length : Int)) = true := by rw [bne_iff_ne]; omega
    have HX : Hid (r = false) := by
      show _ = _
      rw [← unhide HR]
      apply decide_eq_false
      intro e
      exact hl (by rw [e])
    clear oa ob hl
    go_enter Try.func33, Try.ntmps33
    go_wp2
    go_ret
    exact ⟨ret_bool (unhide HX).symm, Below.refl _ _⟩

set_option maxHeartbeats 2000000 in
theorem same1C_any (a b : Cd) (aa ab : Option Addr) (ca cb : Nat) (w : World) (ha : Gl .string w (.slice aa a.w.length ca) a.w) (hb : Gl .string w (.slice ab b.w.length cb) b.w) (r : Bool) (hr : S.sameC a b = r) :
    Calls Try.prog 32 #[.agg #[.string a.id, .int .i64 a.key, .slice aa a.w.length ca], .agg #[.string b.id, .int .i64 b.key, .slice ab b.w.length cb]] w fun e w' => e = .returned (.bool r) ∧ Below w.heap.size w w' := by
  obtain ⟨W, hW⟩ : ∃ W, W = (w.alloc (.cells #[.string a.id, .int .i64 a.key, .slice aa a.w.length ca] 30)).alloc (.cells #[.string b.id, .int .i64 b.key, .slice ab b.w.length cb] 30) := ⟨_, rfl⟩
  have B0 : Below w.heap.size w W := by rw [hW]; exact (below_alloc _ _).alloc (by simp) _
  obtain ⟨r1, hr1⟩ : ∃ r1, decide (a.w = b.w) = r1 := ⟨_, rfl⟩
  have CT := equalS13_any _ _ a.w b.w W (ha.below B0) (hb.below B0) r1 hr1
  unfold S.sameC at hr
  rw [hr1] at hr
  have HR := hide hr
  have HW := hide hW
  clear hW ha hb hr1 hr
  cases hii : (a.id.toList == b.id.toList) with
  | false =>
    have HR2 : Hid (r = false) := by show _ = _; rw [← unhide HR, hii]; cases r1 <;> rfl
    go_enter Try.func32, Try.ntmps32
    go_wp2
    go_ret
    exact ⟨by rw [unhide HR2]; rfl, by rw [← unhide HW]; exact B0⟩
  | true =>
    cases hkk : (a.key == b.key) with
    | false =>
      have HR2 : Hid (r = false) := by show _ = _; rw [← unhide HR, hii, hkk]; cases r1 <;> rfl
      go_enter Try.func32, Try.ntmps32
      go_wp2
      go_ret
      exact ⟨by rw [unhide HR2]; rfl, by rw [← unhide HW]; exact B0⟩
    | true =>
      have HR2 : Hid (r = r1) := by show _ = _; rw [← unhide HR, hii, hkk]; cases r1 <;> rfl
      go_enter Try.func32, Try.ntmps32
      go_wp2_with fail
      rw [← unhide HW]
      refine CT.mono ?_
      rintro e w1 ⟨rfl, B1⟩
      have BB := below_trans' B0 B1
      clear B1 CT
      go_wp2
      go_ret
      exact ⟨by rw [unhide HR2]; rfl, BB⟩

/-- What Same tells. -/
def SameEnd13 (w : World) (L M : List Cd) (e : Ending) (w' : World) : Prop := ∃ r : Bool, e = .returned (.bool r) ∧ (r = true ↔ L = M) ∧ Below w.heap.size w w'

set_option maxHeartbeats 2000000 in
theorem equalF13_any (va vb : Value) (L M : List Cd) (w : World) (h : Cs w va L) (k : Cs w vb M) :
    Calls Try.prog 31 #[va, vb, .func (.func 32) #[] #[]] w fun e w' => SameEnd13 w L M e w' := by
  have HA := h
  have HB := k
  obtain ⟨a, cap, rfl, hl, hm, hna, -⟩ := h.open
  obtain ⟨a2, cap2, rfl, hl2, hm2, hna2, -⟩ := k.open
  clear h k
  by_cases hl : L.length = M.length
  · have h0 : ((L.length : Int) != (M.length : Int)) = false := by simp [hl]
    have HL := hide hl
    clear hl
    go_enter Try.func31, Try.ntmps31
    go_wp2
    go_loopw [17] (fun iv wr => ∃ k : Nat, k ≤ L.length ∧ iv = .int .i64 k ∧ Hid (L.take k = M.take k) ∧ Below w.heap.size w wr) (fun iv _ => L.length - (intOf iv).toNat)
    case atStart => exact ⟨0, Nat.zero_le _, rfl, rfl, Below.refl _ _⟩
    case round =>
      obtain ⟨k, hk, rfl, HT, hbel⟩ := hrel
      by_cases hlt : k < L.length
      · have hltb : k < M.length := by have := unhide HL; omega
        obtain ⟨a', c', hv', -, -, -, ho⟩ := (HA.below hbel).open
        simp only [Value.slice.injEq, true_and] at hv'
        obtain ⟨rfl, rfl⟩ := hv'
        obtain ⟨b1, o1, rfl, hb1, hc1⟩ := ho (by omega)
        clear ho
        obtain ⟨a', c', hv', -, -, -, ho⟩ := (HB.below hbel).open
        simp only [Value.slice.injEq, true_and] at hv'
        obtain ⟨rfl, rfl⟩ := hv'
        obtain ⟨b2, o2, rfl, hb2, hc2⟩ := ho (by omega)
        obtain ⟨c, hx⟩ : ∃ c, L[k]? = some c := ⟨L[k], List.getElem?_eq_getElem hlt⟩
        obtain ⟨d, hy⟩ : ∃ c, M[k]? = some c := ⟨M[k], List.getElem?_eq_getElem hltb⟩
        obtain ⟨wa, wc, c0, c1, c2, G1⟩ := hc1 k c hx
        obtain ⟨wb, wd, d0, d1, d2, G2⟩ := hc2 k d hy
        obtain ⟨r, hr⟩ : ∃ r, S.sameC c d = r := ⟨_, rfl⟩
        obtain ⟨W, hW⟩ : ∃ W, W = (wr.alloc (.cells #[.string c.id, .int .i64 c.key, .slice wa c.w.length wc] 30)).alloc (.cells #[.string d.id, .int .i64 d.key, .slice wb d.w.length wd] 30) := ⟨_, rfl⟩
        have BW : Below wr.heap.size wr W := by rw [hW]; exact below_all (below_alloc _ _) _
        have CC := same1C_any c d wa wb wc wd W (G1.below BW) (G2.below BW) r hr
        have BB0 := below_trans' hbel BW
        have q1 : b2 ≠ wr.heap.size := by omega
        have d0 := cell_keep d0 (below_alloc wr (.cells #[.string c.id, .int .i64 c.key, .slice wa c.w.length wc] 30))
        have d1 := cell_keep d1 (below_alloc wr (.cells #[.string c.id, .int .i64 c.key, .slice wa c.w.length wc] 30))
        have d2 := cell_keep d2 (below_alloc wr (.cells #[.string c.id, .int .i64 c.key, .slice wa c.w.length wc] 30))
        have HX := hide hx
        have HY := hide hy
        have HW := hide hW
        have HQ := hide hr
        clear ho hc1 hc2 hx hy G1 G2 hW hr BW hbel
        cases r with
        | false =>
          have HN : Hid (¬ L = M) := fun e => by
            have e1 := unhide HX
            rw [e, unhide HY] at e1
            have e2 := Option.some.inj e1
            have e3 := unhide HQ
            rw [sameC_iff.2 e2.symm] at e3
            cases e3
          go_wp2_with fail
          rw [← unhide HW]
          refine CC.mono ?_
          rintro e w1 ⟨rfl, B1⟩
          have BB := below_trans' BB0 B1
          clear CC B1 c0 c1 c2 d0 d1 d2
          go_wp2
          go_ret
          exact ⟨false, rfl, ⟨(fun h => by cases h), fun h => absurd h (unhide HN)⟩, BB⟩
        | true =>
          have HT2 : Hid (L.take (k + 1) = M.take (k + 1)) := by
            show _ = _
            rw [take_snoc8 (unhide HX), take_snoc8 (unhide HY), unhide HT, sameC_iff.1 (unhide HQ)]
          go_wp2_with fail
          rw [← unhide HW]
          refine CC.mono ?_
          rintro e w1 ⟨rfl, B1⟩
          have BB := below_trans' BB0 B1
          clear CC B1 c0 c1 c2 d0 d1 d2
          go_wp2
          go_roundw
          case rel => exact ⟨k + 1, by omega, by go_num, HT2, BB⟩
          case measure => simp [intOf]; omega
      · have HE : Hid (L = M) := by
          show _ = _
          have e := unhide HT
          rwa [List.take_of_length_le (by omega), List.take_of_length_le (by have := unhide HL; omega)] at e
        go_wp2
        go_ret
        exact ⟨true, rfl, ⟨fun _ => unhide HE, fun _ => rfl⟩, hbel⟩
  · have h0 : ((L.length : Int) != (M.length : Int)) = true := by rw [bne_iff_ne]; omega
    have HN : Hid (¬ L = M) := fun e => hl (by rw [e])
    clear hl
    go_enter Try.func31, Try.ntmps31
    go_wp2
    go_ret
    exact ⟨false, rfl, ⟨(fun h => by cases h), fun h => absurd h (unhide HN)⟩, Below.refl _ _⟩

theorem same13_any (va vb : Value) (L M : List Cd) (w : World) (h : Cs w va L) (k : Cs w vb M) :
    Calls Try.prog 15 #[va, vb] w fun e w' => SameEnd13 w L M e w' := by
  have CE := equalF13_any va vb L M w h k
  obtain ⟨a, cap, rfl, hl, hm, hna, -⟩ := h.open
  obtain ⟨a2, cap2, rfl, hl2, hm2, hna2, -⟩ := k.open
  clear h k
  go_enter Try.func15, Try.ntmps15
  go_wp2_with fail
  refine CE.mono ?_
  rintro e w1 ⟨r, rfl, hr, B1⟩
  have HR := hide hr
  clear CE hr
  go_wp2
  go_ret
  exact ⟨r, rfl, unhide HR, B1⟩
end Go.Proofs.Ytefnkbgkcjhkoaa

/-
  The contracts of the document's own May and Find of a shelf.
-/
namespace Go.Proofs.Ytefnkbgkcjhkoaa
set_option maxRecDepth 100000
open Go.RowKit

theorem fits_id {c : Cd} (h : S.fits c = true) : c.id.size ≤ 16 := by
  simp only [S.fits, Bool.and_eq_true, decide_eq_true_eq] at h
  exact h.1.1.2
theorem H.may_no {L : List Cd} {c : Cd} (hx : c ∈ L) (h : S.fits c = false) : H.may L = false := by
  cases hm : H.may L with
  | false => rfl
  | true =>
    have := (H.may_iff.1 hm).2.1 c hx
    rw [h] at this
    cases this
theorem H.may_low {L : List Cd} {i : Nat} {a b : Cd} (ha : L[i]? = some a) (hb : L[i + 1]? = some b) (h : K.lt a.id b.id = false) : H.may L = false := by
  have := H.rise_no ha hb h
  rw [H.may, this]
  simp

set_option maxRecDepth 100000 in
set_option maxHeartbeats 4000000 in
theorem rmay13_any (v : Value) (L : List Cd) (w : World) (h : Cs w v L) :
    Calls Try.prog 12 #[v] w fun e w' => e = .returned (.bool (H.may L)) ∧ Below w.heap.size w w' := by
  have H0 := h
  obtain ⟨a, cap, rfl, h1, h2, hna, -⟩ := h.open
  obtain ⟨r, hr⟩ : ∃ r, H.may L = r := ⟨_, rfl⟩
  rw [hr]
  have HR := hide hr
  clear h hr
  by_cases hlen : 1100 < L.length
  · have HF : Hid (r = false) := by
      show _ = _
      rw [← unhide HR, H.may, decide_eq_false (by omega)]
      rfl
    go_enter Try.func12, Try.ntmps12
    go_wp2
    go_ret
    exact ⟨by rw [unhide HF]; rfl, Below.refl _ _⟩
  go_enter Try.func12, Try.ntmps12
  go_wp2
  go_loopw [3] (fun iv wr => ∃ k : Nat, k ≤ L.length ∧ iv = .int .i64 k ∧ Hid (∀ i x, i < k → L[i]? = some x → S.fits x = true) ∧ Hid (∀ i x y, i + 1 < k → L[i]? = some x → L[i + 1]? = some y → K.lt x.id y.id = true) ∧ Below w.heap.size w wr) (fun iv _ => L.length - (intOf iv).toNat)
  case atStart => exact ⟨0, Nat.zero_le _, rfl, hide (fun i x hi => by omega), hide (fun i x y hi => by omega), Below.refl _ _⟩
  case round =>
    obtain ⟨k, hk, rfl, HA, HB, hbel⟩ := hrel
    by_cases hlt : k < L.length
    · obtain ⟨a', c', hv', -, -, -, ho⟩ := (H0.below hbel).open
      simp only [Value.slice.injEq, true_and] at hv'
      obtain ⟨rfl, rfl⟩ := hv'
      obtain ⟨b, off, rfl, hb, hc⟩ := ho (by omega)
      obtain ⟨c, hx⟩ : ∃ c, L[k]? = some c := ⟨L[k], List.getElem?_eq_getElem hlt⟩
      obtain ⟨wa, wc, c0, c1, c2, G⟩ := hc k c hx
      obtain ⟨f, hf⟩ : ∃ f, S.fits c = f := ⟨_, rfl⟩
      have CF := rfits_b c wa wc wr G f hf
      have HX := hide hx
      have HF := hide hf
      have HO := hide hc
      clear ho hc hx hf G
      go_wp2_with fail
      refine CF.mono ?_
      rintro e w1 ⟨rfl, B1⟩
      have BB := below_trans' hbel B1
      have d0 := cell_keep c0 B1
      clear CF c1 c2
      cases f with
      | false =>
        have HN : Hid (r = false) := by show _ = _; rw [← unhide HR]; exact H.may_no (List.mem_of_getElem? (unhide HX)) (unhide HF)
        clear c0 B1
        go_wp2
        go_quiet (fail)
        go_wp2
        go_ret
        exact ⟨by rw [unhide HN]; rfl, below_dr BB _⟩
      | true =>
        have HA2 : Hid (∀ i x, i < k + 1 → L[i]? = some x → S.fits x = true) := hide (fun i x hi hx => by
          by_cases e : i = k
          · subst e
            rw [unhide HX] at hx
            cases hx
            exact unhide HF
          · exact unhide HA i x (by omega) hx)
        by_cases hk0 : k = 0
        · subst hk0
          have HB2 : Hid (∀ i x y, i + 1 < 0 + 1 → L[i]? = some x → L[i + 1]? = some y → K.lt x.id y.id = true) := hide (fun i x y hi => by omega)
          clear c0 B1 HB
          go_wp2
          go_quiet (fail)
          go_wp2
          go_roundw
          case rel => exact ⟨0 + 1, by omega, by go_num, HA2, HB2, below_dr BB _⟩
          case measure => simp [intOf]; omega
        · obtain ⟨j, rfl⟩ : ∃ j, k = j + 1 := ⟨k - 1, by omega⟩
          obtain ⟨d, hy⟩ : ∃ c, L[j]? = some c := ⟨L[j]'(by omega), List.getElem?_eq_getElem _⟩
          obtain ⟨wb, wd, e0, -, -, -⟩ := unhide HO j d hy
          have e0 := cell_keep e0 B1
          have hds : d.id.size ≤ maxLen := by
            have := fits_id (unhide HA j d (by omega) hy)
            unfold maxLen
            omega
          obtain ⟨q, hq⟩ : ∃ q, K.lt d.id c.id = q := ⟨_, rfl⟩
          have g0 : ∀ w', Below w1.heap.size w1 w' → w'.cell? ⟨b, off + j * 3, none⟩ = some (.string d.id) := fun w' hw' => cell_keep e0 hw'
          have g1 : ∀ w', Below w1.heap.size w1 w' → w'.cell? ⟨b, off + (j + 1) * 3, none⟩ = some (.string c.id) := fun w' hw' => cell_keep d0 hw'
          have hj1 : (((j + 1 : Nat) : Int) - 1) = (j : Int) := by omega
          have hj2 : ((j : Int) + 1 - 1) = (j : Int) := by omega
          have hj3 : IntKind.i64.wrap ((j : Int) + 1) = (j : Int) + 1 := by rw [IntKind.wrap_i64]; omega
          have hj4 : IntKind.i64.wrap (j : Int) = (j : Int) := by rw [IntKind.wrap_i64]; omega
          have hj5 : decide ((0 : Int) < (j : Int) + 1) = true := decide_eq_true (by omega)
          have hj6 : (0 : Int) < (j : Int) + 1 := by omega
          have HY := hide hy
          have HQ := hide hq
          clear c0 d0 e0 B1 HO hy hq
          have CB : ∀ w', Calls Try.prog 29 #[.string d.id, .string c.id] w' fun e w'' => e = .returned (.bool q) ∧ Below w'.heap.size w' w'' := fun w' => (below_b d.id c.id w' hds q (unhide HQ)).mono fun e w'' ⟨h1, n, h2⟩ => ⟨h1, by rw [h2]; exact below_dr (Below.refl _ _) n⟩
          cases q with
          | false =>
            have HN : Hid (r = false) := by show _ = _; rw [← unhide HR]; exact H.may_low (unhide HY) (unhide HX) (unhide HQ)
            go_wp2
            refine region_below (by kernel_rfl) (by kernel_rfl) ?_
            repeat
              (first
                | go_big_quiet_skip
                | (go_big_quiet_want; go_big_quiet_op
                   first
                     | go_big_quiet_on
                     | (apply Exists.intro
                        refine ⟨fun w' hw' => ?_, ?_⟩
                        · first
                         | exact rfl
                         | (rw [g0 w' hw']; exact ⟨rfl, rfl⟩)
                         | (rw [g1 w' hw']; exact ⟨rfl, rfl⟩)
                         | (go_at_call 29; exact (CB _).mono fun e w'' ⟨h1, h2⟩ => ⟨h1, below_trans' hw' h2⟩)
                        go_big_quiet_on)))
            refine wpQuiet_nil ?_
            intro w9 hb9
            have B9 := below_trans' BB hb9
            clear g0 g1 CB
            go_wp2
            go_ret
            exact ⟨by rw [unhide HN]; rfl, B9⟩
          | true =>
            have HB2 : Hid (∀ i x y, i + 1 < j + 1 + 1 → L[i]? = some x → L[i + 1]? = some y → K.lt x.id y.id = true) := hide (fun i x y hi hx hy => by
              by_cases e : i = j
              · subst e
                rw [unhide HY] at hx
                rw [unhide HX] at hy
                cases hx
                cases hy
                exact unhide HQ
              · exact unhide HB i x y (by omega) hx hy)
            go_wp2
            refine region_below (by kernel_rfl) (by kernel_rfl) ?_
            repeat
              (first
                | go_big_quiet_skip
                | (go_big_quiet_want; go_big_quiet_op
                   first
                     | go_big_quiet_on
                     | (apply Exists.intro
                        refine ⟨fun w' hw' => ?_, ?_⟩
                        · first
                         | exact rfl
                         | (rw [g0 w' hw']; exact ⟨rfl, rfl⟩)
                         | (rw [g1 w' hw']; exact ⟨rfl, rfl⟩)
                         | (go_at_call 29; exact (CB _).mono fun e w'' ⟨h1, h2⟩ => ⟨h1, below_trans' hw' h2⟩)
                        go_big_quiet_on)))
            refine wpQuiet_nil ?_
            intro w9 hb9
            have B9 := below_trans' BB hb9
            clear g0 g1 CB
            go_wp2
            go_roundw
            case rel => exact ⟨j + 1 + 1, by omega, by go_num, HA2, HB2, B9⟩
            case measure => simp [intOf]; omega
    · have HT : Hid (r = true) := by
        show _ = _
        rw [← unhide HR]
        refine H.may_iff.2 ⟨by omega, fun c hc => ?_, H.rise_up.1 (H.rise_yes fun i x y hx hy => unhide HB i x y (by have := (List.getElem?_eq_some_iff.1 hy).1; omega) hx hy)⟩
        obtain ⟨i, hi⟩ := List.mem_iff_getElem?.1 hc
        exact unhide HA i c (by have := (List.getElem?_eq_some_iff.1 hi).1; omega) hi
      go_wp2
      go_ret
      exact ⟨by rw [unhide HT]; rfl, hbel⟩

set_option maxRecDepth 100000 in
set_option maxHeartbeats 4000000 in
theorem rfind13_any (v : Value) (L : List Cd) (id : ByteArray) (w : World) (h : Cs w v L) :
    Calls Try.prog 14 #[v, .string id] w fun e w' => e = .returned (.int .i64 (H.find L id)) ∧ Below w.heap.size w w' := by
  have H0 := h
  have CM := rmay13_any v L w h
  obtain ⟨a, cap, rfl, h1, h2, hna, -⟩ := h.open
  obtain ⟨m, hm⟩ : ∃ m, H.may L = m := ⟨_, rfl⟩
  obtain ⟨r, hr⟩ : ∃ r, H.find L id = r := ⟨_, rfl⟩
  rw [hm] at CM
  rw [hr]
  have HR := hide hr
  have HM := hide hm
  clear h hr hm
  go_enter Try.func14, Try.ntmps14
  go_wp2_with fail
  refine CM.mono ?_
  rintro e w0 ⟨rfl, B0⟩
  clear CM
  cases m with
  | false =>
    have HN : Hid (r = -1) := by show _ = _; rw [← unhide HR]; exact H.find_neg (by rw [H.delB, unhide HM]; rfl)
    go_wp2
    go_loopw [6] (fun iv wr => iv = .int .i64 (0 : Nat) ∧ Below w.heap.size w wr) (fun _ _ => 0)
    case atStart => exact ⟨rfl, B0⟩
    case round =>
      obtain ⟨rfl, hbel⟩ := hrel
      by_cases h0 : (0 : Int) < L.length
      · go_wp2
        go_ret
        exact ⟨by rw [unhide HN]; rfl, hbel⟩
      · go_wp2
        go_ret
        exact ⟨by rw [unhide HN]; rfl, hbel⟩
  | true =>
    have hlen := (H.may_iff.1 (unhide HM)).1
    go_wp2
    go_loopw [6] (fun iv wr => ∃ k : Nat, k ≤ L.length ∧ iv = .int .i64 k ∧ Hid (∀ i x, i < k → L[i]? = some x → x.id ≠ id) ∧ Below w.heap.size w wr) (fun iv _ => L.length - (intOf iv).toNat)
    case atStart => exact ⟨0, Nat.zero_le _, rfl, hide (fun i x hi => by omega), B0⟩
    case round =>
      obtain ⟨k, hk, rfl, HA, hbel⟩ := hrel
      by_cases hlt : k < L.length
      · obtain ⟨a', c', hv', -, -, -, ho⟩ := (H0.below hbel).open
        simp only [Value.slice.injEq, true_and] at hv'
        obtain ⟨rfl, rfl⟩ := hv'
        obtain ⟨b, off, rfl, hb, hc⟩ := ho (by omega)
        obtain ⟨c, hx⟩ : ∃ c, L[k]? = some c := ⟨L[k], List.getElem?_eq_getElem hlt⟩
        obtain ⟨wa, wc, c0, -, -, -⟩ := hc k c hx
        have HX := hide hx
        clear ho hc hx
        by_cases hq : c.id = id
        · have he : (c.id.toList == id.toList) = true := by rw [hq]; simp
          have HN : Hid (r = (k : Int)) := by
            show _ = _
            rw [← unhide HR]
            have hh : H.has L id = true := H.has_iff.2 ⟨c, List.mem_of_getElem? (unhide HX), hq⟩
            obtain ⟨x, e1, e2, e3⟩ := H.at_has (H.may_up (unhide HM)) hh
            rw [H.find_pos (by rw [H.delB, unhide HM, hh]; rfl)]
            have e4 := (H.may_up (unhide HM)).one e3 (List.mem_of_getElem? (unhide HX)) (e1.trans hq.symm)
            rw [e4] at e2
            rcases Nat.lt_trichotomy (H.low L id).length k with g | g | g
            · exact absurd hq (unhide HA _ c g e2)
            · rw [g]
            · have key := List.pairwise_iff_getElem.1 (H.may_up (unhide HM)) k (H.low L id).length hlt (List.getElem?_eq_some_iff.1 e2).1 g
              rw [(List.getElem?_eq_some_iff.1 e2).2, (List.getElem?_eq_some_iff.1 (unhide HX)).2, K.lt_irrefl] at key
              cases key
          clear hq
          go_wp2
          go_ret
          exact ⟨by rw [unhide HN]; rfl, hbel⟩
        · have he : (c.id.toList == id.toList) = false := by rw [K.eq_to]; simpa using hq
          have HQ := hide hq
          clear hq
          go_wp2
          go_roundw
          case rel =>
            refine ⟨k + 1, by omega, by go_num, hide (fun i x hi hx => ?_), hbel⟩
            by_cases e : i = k
            · subst e
              rw [unhide HX] at hx
              cases hx
              exact unhide HQ
            · exact unhide HA i x (by omega) hx
          case measure => simp [intOf]; omega
      · have HN : Hid (r = -1) := by
          show _ = _
          rw [← unhide HR]
          refine H.find_neg ?_
          rw [H.delB, Bool.and_eq_false_iff]
          right
          rw [← Bool.not_eq_true, H.has_iff]
          rintro ⟨c, hc, e⟩
          obtain ⟨i, hi⟩ := List.mem_iff_getElem?.1 hc
          exact unhide HA i c (by have := (List.getElem?_eq_some_iff.1 hi).1; omega) hi e
        go_wp2
        go_ret
        exact ⟨by rw [unhide HN]; rfl, hbel⟩
end Go.Proofs.Ytefnkbgkcjhkoaa

/-
  The contract of the document's own comparison of cards, told whole.
-/
namespace Go.Proofs.Ytefnkbgkcjhkoaa
set_option maxRecDepth 100000
open Go.RowKit

set_option maxRecDepth 100000 in
set_option maxHeartbeats 4000000 in
theorem allSame13_any (va vb : Value) (L M : List Cd) (w : World) (h : Cs w va L) (k : Cs w vb M) :
    Calls Try.prog 16 #[va, vb] w fun e w' => SameEnd13 w L M e w' := by
  have HA := h
  have HB := k
  obtain ⟨a, cap, rfl, hl, hm, hna, -⟩ := h.open
  obtain ⟨a2, cap2, rfl, hl2, hm2, hna2, -⟩ := k.open
  clear h k
  by_cases hLM : L.length = M.length
  case neg =>
    have q1 : ((L.length : Int) != (M.length : Int)) = true := by simp; omega
    have HNO : Hid (L ≠ M) := hide (fun e => hLM (by rw [e]))
    clear hLM
    go_enter Try.func16, Try.ntmps16
    go_wp2
    go_ret
    exact ⟨false, rfl, ⟨(fun h => by cases h), fun e => absurd e (unhide HNO)⟩, Below.refl _ _⟩
  have q1 : ((L.length : Int) != (M.length : Int)) = false := by simp; omega
  have HLM := hide hLM
  clear hLM
  go_enter Try.func16, Try.ntmps16
  go_wp2
  go_loopw [5] (fun iv wr => ∃ k : Nat, k ≤ L.length ∧ iv = .int .i64 k ∧ Hid (L.take k = M.take k) ∧ Below w.heap.size w wr) (fun iv _ => L.length - (intOf iv).toNat)
  case atStart => exact ⟨0, Nat.zero_le _, rfl, rfl, Below.refl _ _⟩
  case round =>
    obtain ⟨k, hk, rfl, HT, hbel⟩ := hrel
    by_cases hlt : k < L.length
    · obtain ⟨a', c', hv', -, -, -, ho⟩ := (HA.below hbel).open
      simp only [Value.slice.injEq, true_and] at hv'
      obtain ⟨rfl, rfl⟩ := hv'
      obtain ⟨b1, o1, rfl, hb1, hc1⟩ := ho (by omega)
      clear ho
      obtain ⟨a', c', hv', -, -, -, ho⟩ := (HB.below hbel).open
      simp only [Value.slice.injEq, true_and] at hv'
      obtain ⟨rfl, rfl⟩ := hv'
      obtain ⟨b2, o2, rfl, hb2, hc2⟩ := ho (by have := unhide HLM; omega)
      obtain ⟨c, hx⟩ : ∃ c, L[k]? = some c := ⟨L[k], List.getElem?_eq_getElem hlt⟩
      obtain ⟨d, hy⟩ : ∃ d, M[k]? = some d := ⟨M[k]'(by have := unhide HLM; omega), List.getElem?_eq_getElem _⟩
      obtain ⟨wa, wc, c0, c1, c2, G1⟩ := hc1 k c hx
      obtain ⟨wb, wd, d0, d1, d2, G2⟩ := hc2 k d hy
      have g0 : ∀ w', Below wr.heap.size wr w' → w'.cell? ⟨b1, o1 + k * 3, none⟩ = some (.string c.id) := fun w' hw' => cell_keep c0 hw'
      have g1 : ∀ w', Below wr.heap.size wr w' → w'.cell? ⟨b1, o1 + k * 3 + 1, none⟩ = some (.int .i64 c.key) := fun w' hw' => cell_keep c1 hw'
      have g2 : ∀ w', Below wr.heap.size wr w' → w'.cell? ⟨b1, o1 + k * 3 + 2, none⟩ = some (.slice wa c.w.length wc) := fun w' hw' => cell_keep c2 hw'
      have h0 : ∀ w', Below wr.heap.size wr w' → w'.cell? ⟨b2, o2 + k * 3, none⟩ = some (.string d.id) := fun w' hw' => cell_keep d0 hw'
      have h1 : ∀ w', Below wr.heap.size wr w' → w'.cell? ⟨b2, o2 + k * 3 + 1, none⟩ = some (.int .i64 d.key) := fun w' hw' => cell_keep d1 hw'
      have h2 : ∀ w', Below wr.heap.size wr w' → w'.cell? ⟨b2, o2 + k * 3 + 2, none⟩ = some (.slice wb d.w.length wd) := fun w' hw' => cell_keep d2 hw'
      have p1 : (k : Int) < (L.length : Int) := by omega
      have p2 : (k : Int) < (M.length : Int) := by have := unhide HLM; omega
      obtain ⟨r, hr⟩ : ∃ r, S.sameC c d = r := ⟨_, rfl⟩
      have HRD := hide hr
      have HNE : Hid (r = false → L ≠ M) := hide (fun e9 e => by
        subst e
        rw [hx] at hy
        cases hy
        rw [S.sameC_refl] at hr
        rw [← hr] at e9
        cases e9)
      have HT2 : Hid (r = true → L.take (k + 1) = M.take (k + 1)) := hide (fun e9 => by
        rw [take_snoc8 hx, take_snoc8 hy, unhide HT, sameC_iff.1 (hr.trans e9)])
      clear ho hc1 hc2 hx hy c0 c1 c2 d0 d1 d2 hr
      go_wp2
      refine region_below (by kernel_rfl) (by kernel_rfl) ?_
      repeat
        (first
          | go_big_quiet_skip
          | (go_big_quiet_want; go_big_quiet_op
             first
               | go_big_quiet_on
               | (apply Exists.intro
                  refine ⟨fun w' hw' => ?_, ?_⟩
                  · first
                   | exact rfl
                   | (rw [g0 w' hw']; dsimp only [Result.andThen]; rw [g1 w' hw']; dsimp only [Result.andThen]; rw [g2 w' hw']; exact ⟨rfl, rfl⟩)
                   | (rw [h0 w' hw']; dsimp only [Result.andThen]; rw [h1 w' hw']; dsimp only [Result.andThen]; rw [h2 w' hw']; exact ⟨rfl, rfl⟩)
                   | (go_at_call 24; exact (samecG_any c d _ _ _ _ _ (G1.below hw') (G2.below hw') r (unhide HRD)).mono fun e w'' ⟨h1, h2⟩ => ⟨h1, below_trans' hw' h2⟩)
                  go_big_quiet_on)))
      refine wpQuiet_nil ?_
      intro w9 hb9
      have B9 := below_trans' hbel hb9
      clear g0 g1 g2 h0 h1 h2 G1 G2
      cases r with
      | false =>
        have HN := hide (unhide HNE rfl)
        clear HNE HRD
        go_wp2
        go_ret
        exact ⟨false, rfl, ⟨(fun h => by cases h), fun e => absurd e (unhide HN)⟩, B9⟩
      | true =>
        have HT3 := hide (unhide HT2 rfl)
        clear HNE HRD HT2
        go_wp2
        go_roundw
        case rel => exact ⟨k + 1, by omega, by go_num, HT3, B9⟩
        case measure => simp [intOf]; omega
    · have HE : Hid (L = M) := by
        show _ = _
        have e := unhide HT
        rwa [List.take_of_length_le (by omega), List.take_of_length_le (by have := unhide HLM; omega)] at e
      go_wp2
      go_ret
      exact ⟨true, rfl, ⟨fun _ => unhide HE, fun _ => rfl⟩, hbel⟩
end Go.Proofs.Ytefnkbgkcjhkoaa
