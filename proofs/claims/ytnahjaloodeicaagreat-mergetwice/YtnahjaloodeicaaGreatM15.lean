/-
  Texts put together: PlainT8, Box8, Terms8.
-/
import Derived.Test.YtnahjaloodeicaaGreatM13
import Derived.Test.YtnahjaloodeicaaGreatM14
import Derived.Maps.OwnOps
/-
  Where words stand, place by place, and rows of words with their postings of the call's own ('St'). No function of the program is named here.
-/
namespace Go.Proofs.YtnahjaloodeicaaGreat
set_option maxRecDepth 100000
open Go.RowKit Go.WideMaps Go.Maps

namespace S
theorem posts_snoc (l : List Cd) (c : Cd) (t : ByteArray) : posts (l ++ [c]) t = posts l t ++ if places c.w t = [] then [] else [((l.length : Int), places c.w t)] := by
  unfold posts
  rw [pst_app]
  simp [pst]

theorem beh_step {l : List Cd} {id : ByteArray} {key : Int} {ws : List ByteArray} {j : Nat} {t : ByteArray} (h : ws[j]? = some t) :
    behind ((posts (l ++ [⟨id, key, ws.take j⟩]) t).map pt) l.length j = (posts (l ++ [⟨id, key, ws.take (j + 1)⟩]) t).map pt := by
  have hs := places_step h t
  rw [if_pos rfl] at hs
  rw [posts_snoc, posts_snoc]
  simp only [hs]
  by_cases hp : places (ws.take j) t = []
  · rw [hp, if_pos rfl, if_neg (by simp), List.append_nil, List.nil_append]
    rcases List.eq_nil_or_concat (posts l t) with e | ⟨init, p, e⟩
    · rw [e]; rfl
    · rw [List.concat_eq_append] at e
      rw [e, List.map_append, List.map_append, List.map_append]
      have hm : p ∈ posts l t := by rw [e]; simp
      obtain ⟨d, c, hd, rfl, -⟩ := mem_posts.1 hm
      have hdl := (List.getElem?_eq_some_iff.1 hd).1
      exact behind_new (l := init.map pt) (p := pt ((d : Int), places c.w t)) (by show (d : Int) ≠ _; omega)
  · rw [if_neg hp, if_neg (by simp), List.map_append, List.map_append]
    exact behind_old (l := (posts l t).map pt) (p := pt ((l.length : Int), places (ws.take j) t)) rfl

theorem oth_step {l : List Cd} {id : ByteArray} {key : Int} {ws : List ByteArray} {j : Nat} {t x : ByteArray} (h : ws[j]? = some x) (hne : x ≠ t) :
    posts (l ++ [⟨id, key, ws.take (j + 1)⟩]) t = posts (l ++ [⟨id, key, ws.take j⟩]) t := by
  have hs := places_step h t
  rw [if_neg hne, List.append_nil] at hs
  rw [posts_snoc, posts_snoc]
  simp only [hs]

theorem posts_none {l : List Cd} {id : ByteArray} {key : Int} {t : ByteArray} {ws : List ByteArray} : posts (l ++ [⟨id, key, ws.take 0⟩]) t = posts l t := by
  rw [posts_snoc]
  simp [places, plc]
theorem posts_sizes {l : List Cd} {t : ByteArray} {p : Int × List Int} (h : p ∈ posts l t) (hw : ∀ c ∈ l, c.w.length ≤ 1000) : p.2.length ≤ 1000 := by
  obtain ⟨j, c, hj, rfl, -⟩ := mem_posts.1 h
  exact Nat.le_trans (places_len _ _) (hw c (List.mem_of_getElem? hj))
end S

abbrev Tx := ByteArray × Pts × List (Pt × Pts)
def encS (x : Tx) : List Value := [.string x.1, sv x.2.1]
theorem encS_len (x : Tx) : (encS x).length = 2 := rfl
theorem encS_one (x : Tx) : ∀ u ∈ encS x, u.oneCell' = true := by
  intro u hu
  simp only [encS, List.mem_cons, List.not_mem_nil, or_false] at hu
  rcases hu with rfl | rfl <;> rfl

theorem flat_set {α : Type} {f : α → List Value} {k : Nat} (hk : ∀ y, (f y).length = k) {u : Value} {y' : α} : ∀ {l : List α} {i j : Nat} {y : α}, l[i]? = some y → j < k → f y' = (f y).set j u → (l.flatMap f).set (i * k + j) u = (l.set i y').flatMap f
  | [], i, j, y, h, _, _ => by simp at h
  | z :: l, i, j, y, h, hj, hf => by
    cases i with
    | zero =>
      simp at h
      subst h
      rw [List.flatMap_cons, List.set_cons_zero, List.flatMap_cons, hf, Nat.zero_mul, Nat.zero_add, List.set_append_left _ _ (by rw [hk]; exact hj)]
    | succ i =>
      rw [List.flatMap_cons, List.set_cons_succ, List.flatMap_cons, List.set_append_right _ _ (by rw [hk, Nat.add_mul, Nat.one_mul]; omega), hk, show (i + 1) * k + j - k = i * k + j by rw [Nat.add_mul, Nat.one_mul]; omega]
      rw [flat_set hk (by simpa using h) hj hf]

/-- Postings of many words, all apart. -/
def St (B : Nat) (w : World) (st : List Tx) : Prop := (∀ x ∈ st, Own8 B w x.2.1 x.2.2) ∧ ∀ (i j : Nat) (x y : Tx), i ≠ j → st[i]? = some x → st[j]? = some y → ∀ k, Bl x.2.1 x.2.2 k → ¬ Bl y.2.1 y.2.2 k

theorem St.keep {B : Nat} {w w' : World} {st : List Tx} (h : St B w st) (hk : ∀ x ∈ st, ∀ k, Bl x.2.1 x.2.2 k → w'.heap[k]? = w.heap[k]?) : St B w' st := ⟨fun x hx => (h.1 x hx).keep (hk x hx), h.2⟩
theorem St.below {B : Nat} {w w' : World} {st : List Tx} (h : St B w st) (hb : Below w.heap.size w w') : St B w' st := h.keep fun x hx k hk => hb.block k ((h.1 x hx).lt hk).2

theorem St.step {B : Nat} {w w' : World} {st : List Tx} {i : Nat} {t : ByteArray} {s s' : Pts} {qs qs' : List (Pt × Pts)} (h : St B w st) (hi : st[i]? = some (t, s, qs)) (ho : Own8 B w' s' qs') (hb : ∀ j, Bl s' qs' j → Bl s qs j ∨ w.heap.size ≤ j) (hk : Kept (Bl s qs) w w') : St B w' (st.set i (t, s', qs')) := by
  obtain ⟨hil, hie⟩ := List.getElem?_eq_some_iff.1 hi
  have key : ∀ (j : Nat) (x : Tx), (st.set i (t, s', qs'))[j]? = some x → (j = i ∧ x = (t, s', qs')) ∨ (j ≠ i ∧ st[j]? = some x) := by
    intro j x hx
    by_cases e : i = j
    · subst e
      rw [List.getElem?_set_self hil] at hx
      exact .inl ⟨rfl, (Option.some.inj hx).symm⟩
    · rw [List.getElem?_set_ne e] at hx
      exact .inr ⟨fun e' => e e'.symm, hx⟩
  refine ⟨fun x hx => ?_, fun a b x y hab hx hy k hbx hby => ?_⟩
  · obtain ⟨j, hj, hjx⟩ := List.mem_iff_getElem.1 hx
    rcases key j x (by rw [List.getElem?_eq_getElem hj, hjx]) with ⟨-, rfl⟩ | ⟨hne, hjs⟩
    · exact ho
    · have hx' := List.mem_of_getElem? hjs
      refine (h.1 x hx').keep fun k hk' => hk.2 k ((h.1 x hx').lt hk').2 fun hm => ?_
      exact h.2 j i x (t, s, qs) hne hjs hi k hk' hm
  · rcases key a x hx with ⟨rfl, rfl⟩ | ⟨hna, hax⟩
    · rcases key b y hy with ⟨rfl, -⟩ | ⟨hnb, hby'⟩
      · exact hab rfl
      · rcases hb k hbx with h1 | h1
        · exact h.2 _ _ _ _ hab hi hby' k h1 hby
        · have := ((h.1 y (List.mem_of_getElem? hby')).lt hby).2
          omega
    · rcases key b y hy with ⟨rfl, rfl⟩ | ⟨hnb, hby'⟩
      · rcases hb k hby with h1 | h1
        · exact h.2 _ _ _ _ hab hax hi k hbx h1
        · have := ((h.1 x (List.mem_of_getElem? hax)).lt hbx).2
          omega
      · exact h.2 _ _ _ _ hab hax hby' k hbx hby

/-- No block of postings is one of words. -/
theorem Own8.far {B B' : Nat} {w : World} {s : Pts} {qs : List (Pt × Pts)} (h : Own8 B w s qs) {v : Value} {n g : Nat} {xs : List Value} (ho : w.ownsRow B' 69 2 v n xs) (hg : v.ownBlock = some g) {k : Nat} (hk : Bl s qs k) : k ≠ g := by
  intro e
  subst e
  rcases hk with hk | ⟨q, hq, hk⟩
  · rcases own_apart h.1 ho (by decide) with h1 | h1
    · rw [h1] at hk; cases hk
    · exact h1 (by rw [hk, hg])
  · rcases own_apart (h.2.1 q hq) ho (by decide) with h1 | h1
    · rw [h1] at hk; cases hk
    · exact h1 (by rw [hk, hg])

theorem map_keep {H : Type} {P : Program} {k : TypeId} {R : Value → Option (DataW H × List MemPlace)} {w w' : World} {b n : Nat} {D : DataW H} (h : w.ownsMap P k R b n D) (hb : w'.heap[b]? = w.heap[b]?) : w'.ownsMap P k R b n D := by
  obtain ⟨es, clock, h1, r⟩ := h
  exact ⟨es, clock, hb.trans h1, r⟩

/-- The words, in their order, with the postings of the cards l. -/
def Cur (st : List Tx) (ws : List ByteArray) (l : List Cd) : Prop := st.length = ws.length ∧ ∀ (j : Nat) (x : Tx), st[j]? = some x → ws[j]? = some x.1 ∧ x.2.2.map (·.1) = (S.posts l x.1).map S.pt

def toT (x : Tx) : Tm × Pts := (⟨x.1, x.2.2.map (·.1)⟩, x.2.1)
theorem flat_toT (st : List Tx) : st.flatMap encS = (st.map toT).flatMap encT := by
  rw [List.flatMap_map]
  rfl

theorem Cur.ts {B B' n : Nat} {w : World} {v : Value} {st : List Tx} {ws : List ByteArray} {l : List Cd} (h : Cur st ws l) (hs : St B w st) (ho : w.ownsRow B' 69 2 v n (st.flatMap encS)) : Ts w v (ws.map (S.term l)) := by
  rw [flat_toT] at ho
  have := Ts.own ho (fun p hp => by
    obtain ⟨x, hx, rfl⟩ := List.mem_map.1 hp
    exact (hs.1 x hx).pl)
  have e : (st.map toT).map (·.1) = ws.map (S.term l) := by
    apply List.ext_getElem?
    intro j
    rw [List.map_map, List.getElem?_map, List.getElem?_map]
    cases hj : st[j]? with
    | none =>
      have : ws[j]? = none := by rw [List.getElem?_eq_none_iff] at hj ⊢; have := h.1; omega
      rw [this]; rfl
    | some x =>
      obtain ⟨h1, h2⟩ := h.2 j x hj
      rw [h1]
      simp only [Option.map_some, Function.comp, toT, S.term, h2]
  rw [e] at this
  exact this

/-- Words with the postings of the cards l, in rows of the call's own. -/
def TS (B : Nat) (w : World) (v : Value) (ws : List ByteArray) (l : List Cd) : Prop := ∃ st, Cur st ws l ∧ St B w st ∧ w.ownsRow B 69 2 v ws.length (st.flatMap encS)
theorem TS.ts {B : Nat} {w : World} {v : Value} {ws : List ByteArray} {l : List Cd} (h : TS B w v ws l) : Ts w v (ws.map (S.term l)) := by
  obtain ⟨st, h1, h2, h3⟩ := h
  exact h1.ts h2 h3
theorem TS.below {B : Nat} {w w' : World} {v : Value} {ws : List ByteArray} {l : List Cd} (h : TS B w v ws l) (hb : Below w.heap.size w w') : TS B w' v ws l := by
  obtain ⟨st, h1, h2, h3⟩ := h
  exact ⟨st, h1, h2.below hb, own_below h3 hb⟩
/-- A store below the rows leaves them. -/
theorem TS.set {B : Nat} {w : World} {v : Value} {ws : List ByteArray} {l : List Cd} (h : TS B w v ws l) {p : Addr} (hp : p.block < B) (u : Value) : TS B (w.setCell p u) v ws l := by
  obtain ⟨st, h1, h2, h3⟩ := h
  refine ⟨st, h1, h2.keep fun x hx k hk => Below.heap_setCell w p u k fun e => ?_, own_set h3 (fun k hk e => ?_) u⟩
  · have := ((h2.1 x hx).lt hk).1
    omega
  · have := (h3.lt k hk).1
    omega

theorem Cur.step {st : List Tx} {ws : List ByteArray} {l : List Cd} {id : ByteArray} {key : Int} {cw : List ByteArray} {j i : Nat} {t : ByteArray} {s s' : Pts} {qs qs' : List (Pt × Pts)} (h : Cur st ws (l ++ [⟨id, key, cw.take j⟩])) (hr : D.Rise ws) (hw : cw[j]? = some t) (hi : st[i]? = some (t, s, qs))
    (hq : qs'.map (·.1) = S.behind (qs.map (·.1)) l.length j) : Cur (st.set i (t, s', qs')) ws (l ++ [⟨id, key, cw.take (j + 1)⟩]) := by
  obtain ⟨hil, hie⟩ := List.getElem?_eq_some_iff.1 hi
  refine ⟨by simp [h.1], fun a x hx => ?_⟩
  by_cases e : i = a
  · subst e
    rw [List.getElem?_set_self hil] at hx
    obtain rfl := Option.some.inj hx
    obtain ⟨h1, h2⟩ := h.2 i _ hi
    refine ⟨h1, ?_⟩
    simp only at h2 ⊢
    rw [hq, h2]
    exact S.beh_step hw
  · rw [List.getElem?_set_ne e] at hx
    obtain ⟨h1, h2⟩ := h.2 a x hx
    refine ⟨h1, ?_⟩
    rw [S.oth_step hw, h2]
    rintro rfl
    have e1 : D.bel ws x.1 = i := D.bel_self hr (h.2 i _ hi).1
    have e2 := D.bel_self hr h1
    omega

/-- The map tells where each of the first k words stands. -/
def Nums (M : DataW Unit) (ws : List ByteArray) (k : Nat) : Prop := IsMap M ∧ ∀ (j : Nat) (t : ByteArray), j < k → ws[j]? = some t → M.atKey (.string t.data.toList) (.lit (.int .i64 0)) = .lit (.int .i64 j)
theorem Nums.start (ws : List ByteArray) : Nums (.map []) ws 0 := ⟨isMap_empty, fun j t hj => by omega⟩
theorem Nums.step {M : DataW Unit} {ws : List ByteArray} {k : Nat} {x : ByteArray} (h : Nums M ws k) (hr : D.Rise ws) (hx : ws[k]? = some x) : Nums (M.put (.string x.data.toList) (.lit (.int .i64 k))) ws (k + 1) := by
  refine ⟨h.1.put _ _, fun j t hj ht => ?_⟩
  by_cases e : j = k
  · subst e
    rw [hx] at ht
    cases ht
    rw [atKey_put_same h.1 (by simp [WideAt.IsKeyLit])]
  · rw [atKey_put_other (lit_ne ?_)]
    · exact h.2 j t (by omega) ht
    · rintro rfl
      have e1 := D.bel_self hr ht
      have e2 := D.bel_self hr hx
      omega

/-- 'numbers[word]': where the word stands. -/
theorem lookup_num {ops : Array Oper} {rest : List Oper} {o : Oper} {a : Act} {Q : Exit → Act → World → Prop} {w : World} {b n j : Nat} {M : DataW Unit} {ws : List ByteArray} {t : ByteArray} (hg : o.guard = none) (m x : Operand) (hop : o.op = Op.lookup 114 m x false) (hm : a.eval m = .map (some b))
    (ho : w.ownsMap Tryz.prog 9 (plainElem Tryz.prog 3) b n M) (hN : Nums M ws n) (hj : ws[j]? = some t) (hjn : j < n) (ht : t.size ≤ maxLen) (hx : a.eval x = .string t)
    (hK : wpList Tryz.prog ops Q rest (a.put o.dst (.int .i64 (j : Int))) w) : wpList Tryz.prog ops Q (o :: rest) a w := by
  refine wpList_lookup_own_int _ hg m x _ hop 9 3 .i64 keyed9 Tryz.underlying114 Tryz.underlying3 (zero3 _) b n M hm ho _ _ hx (keyOf_string_mk Tryz.underlying9 ht) ?_
  intro c hc _
  rw [hN.2 j t hjn hj] at hc
  simp only [DataW.lit.injEq, Lit.int.injEq, true_and] at hc
  rw [← hc]
  exact hK
end Go.Proofs.YtnahjaloodeicaaGreat

/-
  A segment that is being made: its box, and the rows of ids, keys and lengths ('Bx'). No function of the program is named here.
-/
namespace Go.Proofs.YtnahjaloodeicaaGreat
set_option maxRecDepth 100000
open Go.RowKit

theorem bset {w : World} {g : Nat} {cs : Array Value} {T : TypeId} (h : w.heap[g]? = some (.cells cs T (0, 0))) (j : Nat) (u : Value) : (w.setCell ⟨g, j, none⟩ u).heap[g]? = some (.cells (cs.setIfInBounds j u) T (0, 0)) := by
  simp [World.setCell, Array.getElem?_modify, h]
theorem bfro {w : World} {g : Nat} {cs : Array Value} {T : TypeId} (h : w.heap[g]? = some (.cells cs T (0, 0))) (j : Nat) : w.frozen? ⟨g, j, none⟩ = false := by simp [World.frozen?, h]
theorem bfar {w : World} {g : Nat} {o : Obj} (h : w.heap[g]? = some o) {p : Addr} (hp : g ≠ p.block) (u : Value) : (w.setCell p u).heap[g]? = some o := by rw [Below.heap_setCell w p u g hp]; exact h

def Bx (S : Nat) (w : World) (iv kv lv tv : Value) (so : Bool) (ids : List ByteArray) (keys lens : List Int) : Prop :=
  w.heap[S]? = some (.cells #[iv, kv, lv, tv, .bool so] 30 (0, 0)) ∧ w.ownsRow (S + 1) 9 1 iv ids.length (ids.map Value.string) ∧ w.ownsRow (S + 1) 3 1 kv keys.length (keys.map (Value.int .i64)) ∧ w.ownsRow (S + 1) 3 1 lv lens.length (lens.map (Value.int .i64)) ∧ Far kv lv

theorem Bx.below {S : Nat} {w w' : World} {iv kv lv tv : Value} {so : Bool} {ids : List ByteArray} {keys lens : List Int} (h : Bx S w iv kv lv tv so ids keys lens) (hb : Below w.heap.size w w') : Bx S w' iv kv lv tv so ids keys lens :=
  ⟨box_below h.1 hb, own_below h.2.1 hb, own_below h.2.2.1 hb, own_below h.2.2.2.1 hb, h.2.2.2.2⟩

theorem Far.symm {v x : Value} (h : Far v x) : Far x v := fun k hk e => h k e hk

theorem row_ne {w : World} {S : Nat} {e : TypeId} {k n : Nat} {v : Value} {xs : List Value} (h : w.ownsRow (S + 1) e k v n xs) : some S ≠ v.ownBlock := fun e => by have := (h.lt S e.symm).1; omega
theorem row_set {w : World} {S : Nat} {e : TypeId} {k n : Nat} {v : Value} {xs : List Value} (h : w.ownsRow (S + 1) e k v n xs) (j : Nat) (u : Value) : (w.setCell ⟨S, j, none⟩ u).ownsRow (S + 1) e k v n xs :=
  own_set h (fun b hb e => by have := (h.lt b hb).1; simp only at e; omega) u

theorem Bx.ids {S g n cap : Nat} {wr w1 : World} {iv kv lv tv : Value} {so : Bool} {ids : List ByteArray} {keys lens : List Int} {x : ByteArray} (h : Bx S wr iv kv lv tv so ids keys lens)
    (ho : w1.ownsRow (S + 1) 9 1 (.slice (some ⟨g, 0, none⟩) n cap) (ids ++ [x]).length ((ids ++ [x]).map Value.string)) (hg : wr.grownBy w1 iv.ownBlock) :
    Bx S (w1.setCell ⟨S, 0, none⟩ (.slice (some ⟨g, 0, none⟩) n cap)) (.slice (some ⟨g, 0, none⟩) n cap) kv lv tv so (ids ++ [x]) keys lens :=
  ⟨bset (box_grown h.1 hg (row_ne h.2.1)) 0 _, row_set ho 0 _, row_set (h.2.2.1.kept hg (own_apart h.2.2.1 h.2.1 (by decide))) 0 _, row_set (h.2.2.2.1.kept hg (own_apart h.2.2.2.1 h.2.1 (by decide))) 0 _, h.2.2.2.2⟩

theorem Bx.keys {S g n cap : Nat} {wr w1 : World} {iv kv lv tv : Value} {so : Bool} {ids : List ByteArray} {keys lens : List Int} {x : Int} (h : Bx S wr iv kv lv tv so ids keys lens)
    (ho : w1.ownsRow (S + 1) 3 1 (.slice (some ⟨g, 0, none⟩) n cap) (keys ++ [x]).length ((keys ++ [x]).map (Value.int .i64))) (hg : wr.grownBy w1 kv.ownBlock) (hl : kv.ownBlock = some g ∨ wr.heap.size ≤ g) :
    Bx S (w1.setCell ⟨S, 1, none⟩ (.slice (some ⟨g, 0, none⟩) n cap)) iv (.slice (some ⟨g, 0, none⟩) n cap) lv tv so ids (keys ++ [x]) lens := by
  refine ⟨bset (box_grown h.1 hg (row_ne h.2.2.1)) 1 _, row_set (h.2.1.kept hg (own_apart h.2.1 h.2.2.1 (by decide))) 1 _, row_set ho 1 _, row_set (h.2.2.2.2.kept h.2.2.2.1 hg) 1 _, fun b hb e => ?_⟩
  simp [Value.ownBlock] at hb
  subst hb
  rcases hl with hl | hl
  · exact h.2.2.2.2 _ hl e
  · have := (h.2.2.2.1.lt _ e).2
    omega

theorem Bx.lens {S g n cap : Nat} {wr w1 : World} {iv kv lv tv : Value} {so : Bool} {ids : List ByteArray} {keys lens : List Int} {x : Int} (h : Bx S wr iv kv lv tv so ids keys lens)
    (ho : w1.ownsRow (S + 1) 3 1 (.slice (some ⟨g, 0, none⟩) n cap) (lens ++ [x]).length ((lens ++ [x]).map (Value.int .i64))) (hg : wr.grownBy w1 lv.ownBlock) (hl : lv.ownBlock = some g ∨ wr.heap.size ≤ g) :
    Bx S (w1.setCell ⟨S, 2, none⟩ (.slice (some ⟨g, 0, none⟩) n cap)) iv kv (.slice (some ⟨g, 0, none⟩) n cap) tv so ids keys (lens ++ [x]) := by
  refine ⟨bset (box_grown h.1 hg (row_ne h.2.2.2.1)) 2 _, row_set (h.2.1.kept hg (own_apart h.2.1 h.2.2.2.1 (by decide))) 2 _, row_set (h.2.2.2.2.symm.kept h.2.2.1 hg) 2 _, row_set ho 2 _, fun b hb e => ?_⟩
  simp [Value.ownBlock] at e
  subst e
  rcases hl with hl | hl
  · exact h.2.2.2.2 _ hb hl
  · have := (h.2.2.1.lt _ hb).2
    omega

/-- What stays behind an append to one of the rows and a store into the box. -/
theorem Bx.grow {S : Nat} {w0 wr w1 : World} {e : TypeId} {n j : Nat} {v u : Value} {xs : List Value} (ho : wr.ownsRow (S + 1) e 1 v n xs) (hb : Below S w0 wr) (hS : S ≤ wr.heap.size) (hg : wr.grownBy w1 v.ownBlock) : Below S w0 (w1.setCell ⟨S, j, none⟩ u) :=
  (hb.grown hg hS (fun k hk => by have := (ho.lt k hk).1; omega)).setCell (Nat.le_refl _) _
theorem card_grow {S b : Nat} {wr w1 : World} {cs : Array Value} {e : TypeId} {n j : Nat} {v u : Value} {xs : List Value} (hc : wr.heap[b]? = some (.cells cs 40 (0, 0))) (ho : wr.ownsRow (S + 1) e 1 v n xs) (he : 40 ≠ e) (hg : wr.grownBy w1 v.ownBlock) (hb : b ≠ S) : (w1.setCell ⟨S, j, none⟩ u).heap[b]? = some (.cells cs 40 (0, 0)) :=
  bfar (box_grown hc hg (own_ne_box ho hc he)) hb _
end Go.Proofs.YtnahjaloodeicaaGreat

/-
  The contract of terms: the words, with where they stand in the cards.
-/
namespace Go.Proofs.YtnahjaloodeicaaGreat
set_option maxRecDepth 100000
open Go.RowKit Go.WideMaps Go.Maps

set_option maxRecDepth 100000 in
set_option maxHeartbeats 4000000 in
theorem terms_any (v u : Value) (L : List Cd) (ws : List ByteArray) (w : World) (h : Cs w v L) (hg : Gl .string w u ws) (hr : D.Rise ws) (hll : L.length ≤ 64) (hwl : ws.length ≤ 200) (hcw : ∀ c ∈ L, c.w.length ≤ 120) (hin : ∀ c ∈ L, ∀ x ∈ c.w, x ∈ ws) (hz : ∀ x ∈ ws, x.size ≤ 32) :
    Calls Tryz.prog 41 #[v, u] w fun e w' => ∃ v', e = .returned v' ∧ TS (w.heap.size + 1) w' v' ws L ∧ Below w.heap.size w w' := by
  obtain ⟨i0, hi, hz0, hz1, hz2⟩ := info_parts Tryz.infoT
  obtain ⟨a, cap, rfl, hl, hm, hna, ho1⟩ := h.open
  obtain ⟨a2, cap2, rfl, hl2, hm2, hna2, ho2⟩ := hg.open
  have HR := hide hr
  have HIN := hide hin
  have hmm := @run_makeMap Tryz.prog
  clear h hg hr hin
  go_enter Tryz.func41, Tryz.ntmps41
  go_wp2
  go_loopw [6, 17] (fun ov iv wr => ∃ (k : Nat) (M : DataW Unit) (st : List Tx), k ≤ ws.length ∧ iv = .int .i64 k ∧ Hid (st = (ws.take k).map (fun t => (t, ((none, 0, 0) : Pts), ([] : List (Pt × Pts))))) ∧ st.length ≤ 200 ∧ wr.ownsMap Tryz.prog 9 (plainElem Tryz.prog 3) w.heap.size k M ∧ Hid (Nums M ws k) ∧ wr.ownsRow (w.heap.size + 1) 69 2 ov st.length (st.flatMap encS) ∧ Below w.heap.size w wr ∧ w.heap.size + 1 ≤ wr.heap.size) (fun _ iv _ => ws.length - (intOf iv).toNat)
  case atStart => exact ⟨0, _, [], Nat.zero_le _, rfl, rfl, by simp, World.ownsMap_made _ _ _ _, Nums.start ws, World.ownsRow_nil _ _ _ _, below_alloc _ _, by simp⟩
  case round =>
    obtain ⟨k, M, st, hk, rfl, HS, hsl, hown, HN, hrow, hbel, hws⟩ := hrel
    by_cases hlt : k < ws.length
    · obtain ⟨x, hx⟩ : ∃ x, ws[k]? = some x := ⟨ws[k], List.getElem?_eq_getElem hlt⟩
      obtain ⟨b, off, rfl, hb, hc⟩ := ho2 (by omega)
      have d0 := (hbel.cell (p := ⟨b, off + k, none⟩) hb).trans (hc k x hx)
      have hns : x.size ≤ maxLen := by have := hz x (List.mem_of_getElem? hx); unfold maxLen; omega
      have hkey : keyOf Tryz.prog 9 (.string x) = some (.string x.data.toList) := keyOf_string_mk Tryz.underlying9 hns
      have hbs := hbel.size
      have HN2 := hide ((unhide HN).step (unhide HR) hx)
      have HTS := hide (take_snoc8 hx)
      have hst : st.length < 200 := by have := unhide HS; rw [this]; simp; omega
      clear hc ho2 hx hsl
      go_wp2_with (at_mapUpdate; refine wpList_mapUpdate_own _ rfl _ _ _ 114 rfl 9 3 keyed9 Tryz.underlying114 _ w.heap.size k _ rfl hown (by unfold maxLen; omega) _ _ _ rfl rfl hkey _ [] (plainElem_int Tryz.underlying3 (WalkArith.wf_i64 (by omega))) ?_)
      intro w1 hown1 hgrow1
      have B1 := hbel.grown hgrow1 (by omega) (fun j hj => by cases hj; exact Nat.le_refl _)
      have O1 := hrow.kept hgrow1 (by
        cases hv : u6.ownBlock with
        | none => exact .inl rfl
        | some q => exact .inr (by have := (hrow.lt q hv).1; simp; omega))
      have hs1 : w.heap.size + 1 ≤ w1.heap.size := Nat.le_trans hws hgrow1.size
      clear hgrow1 hrow hown hbel d0
      go_wp2_with (at_builtin; refine append_oneF rfl _ _ 28 rfl Tryz.underlying28 hi hz0 hz1 hz2 rfl (by decide) encS_len encS_one (pre := st) (v := u6) (x, (none, 0, 0), []) rfl rfl rfl (by simp) O1 (by omega) (by omega) (by decide) ?_; intro g2 cap3 w2 O2 g2' l2)
      have B2 := B1.grown g2' (by omega) (fun j hj => by have := (O1.lt j hj).1; omega)
      have M2 := hown1.kept g2' (by intro e; have := (O1.lt _ e.symm).1; omega)
      have hs2 := Nat.le_trans hs1 g2'.size
      clear g2' l2 O1 B1 hown1
      go_wp2
      go_roundw
      case rel =>
        refine ⟨k + 1, _, st ++ [(x, (none, 0, 0), [])], by omega, by go_num, ?_, by simp; omega, M2, unhide HN2, O2, B2, hs2⟩
        show _ = _
        rw [unhide HTS, List.map_append, ← unhide HS]
        rfl
      case measure => simp [intOf]; omega
    · have hkl : k = ws.length := by omega
      subst hkl
      have HC : Hid (Cur st ws (L.take 0)) := by
        have e := unhide HS
        rw [List.take_length] at e
        refine ⟨by rw [e]; simp, fun j x hx => ?_⟩
        rw [e, List.getElem?_map] at hx
        obtain ⟨t, ht, rfl⟩ := Option.map_eq_some_iff.1 hx
        exact ⟨ht, rfl⟩
      have hst : St (w.heap.size + 1) wr st := by
        have e := unhide HS
        refine ⟨fun x hx => ?_, fun i j x y _ hx hy q hq => ?_⟩
        · rw [e] at hx
          obtain ⟨t, -, rfl⟩ := List.mem_map.1 hx
          exact Own8.nil _ _
        · rw [e, List.getElem?_map] at hx
          obtain ⟨t, -, rfl⟩ := Option.map_eq_some_iff.1 hx
          rcases hq with hq | ⟨q', hq', -⟩
          · cases hq
          · cases hq'
      have hrow : wr.ownsRow (w.heap.size + 1) 69 2 u6 ws.length (st.flatMap encS) := by rw [← (unhide HC).1]; exact hrow
      clear HS hsl ho2
      rename World => w0
      go_wp2
      go_loopw [33] (fun iv wr => ∃ (i : Nat) (st : List Tx), i ≤ L.length ∧ iv = .int .i64 i ∧ Hid (Cur st ws (L.take i)) ∧ St (w.heap.size + 1) wr st ∧ wr.ownsMap Tryz.prog 9 (plainElem Tryz.prog 3) w.heap.size ws.length M ∧ wr.ownsRow (w.heap.size + 1) 69 2 u6 ws.length (st.flatMap encS) ∧ Below w.heap.size w wr ∧ w.heap.size + 1 ≤ wr.heap.size) (fun iv _ => L.length - (intOf iv).toNat)
      case atStart => exact ⟨0, st, Nat.zero_le _, rfl, HC, hst, hown, hrow, hbel, hws⟩
      case round =>
        clear hown hrow hbel hws hst HC
        obtain ⟨i, st1, hil, rfl, HC, hst, hown, hrow, hbel, hws⟩ := hrel
        by_cases hlt : i < L.length
        · obtain ⟨b, off, rfl, hb, hc⟩ := ho1 (by omega)
          obtain ⟨c, hx⟩ : ∃ c, L[i]? = some c := ⟨L[i], List.getElem?_eq_getElem hlt⟩
          obtain ⟨wa, wc, c0, c1, c2, G0⟩ := hc i c hx
          have d0 := (hbel.cell (p := ⟨b, off + i * 3, none⟩) hb).trans c0
          have d1 := (hbel.cell (p := ⟨b, off + i * 3 + 1, none⟩) hb).trans c1
          have d2 := (hbel.cell (p := ⟨b, off + i * 3 + 2, none⟩) hb).trans c2
          have hcl := hcw c (List.mem_of_getElem? hx)
          have HX := hide hx
          have HC0 : Hid (Cur st1 ws (L.take i ++ [⟨c.id, c.key, c.w.take 0⟩])) := ⟨(unhide HC).1, fun j x hx => by rw [S.posts_none]; exact (unhide HC).2 j x hx⟩
          have BC := below_all hbel (.cells #[.string c.id, .int .i64 c.key, .slice wa c.w.length wc] 40)
          have BC' := below_alloc wr (.cells #[.string c.id, .int .i64 c.key, .slice wa c.w.length wc] 40)
          have hstC := hst.below BC'
          have hownC := hown.alloc (.cells #[.string c.id, .int .i64 c.key, .slice wa c.w.length wc] 40)
          have hrowC := hrow.alloc (.cells #[.string c.id, .int .i64 c.key, .slice wa c.w.length wc] 40)
          have hwsC : w.heap.size + 1 ≤ (wr.alloc (.cells #[.string c.id, .int .i64 c.key, .slice wa c.w.length wc] 40)).heap.size := by simp; omega
          obtain ⟨wa', wc', hv', -, -, -, hoW⟩ := G0.open
          simp only [Value.slice.injEq, true_and] at hv'
          obtain ⟨rfl, rfl⟩ := hv'
          rename World => w9
          clear hc c0 c1 c2 hx hst hown hrow hbel hws HC BC'
          go_wp2
          go_loopw [41] (fun iv wr => ∃ (j : Nat) (st : List Tx), j ≤ c.w.length ∧ iv = .int .i64 j ∧ Hid (Cur st ws (L.take i ++ [⟨c.id, c.key, c.w.take j⟩])) ∧ St (w.heap.size + 1) wr st ∧ wr.ownsMap Tryz.prog 9 (plainElem Tryz.prog 3) w.heap.size ws.length M ∧ wr.ownsRow (w.heap.size + 1) 69 2 u6 ws.length (st.flatMap encS) ∧ Below w.heap.size w wr ∧ w.heap.size + 1 ≤ wr.heap.size) (fun iv _ => c.w.length - (intOf iv).toNat)
          case atStart => exact ⟨0, st1, Nat.zero_le _, rfl, HC0, hstC, hownC, hrowC, BC, hwsC⟩
          case round =>
            clear hownC hrowC hwsC hstC HC0 BC
            obtain ⟨j, st2, hjl, rfl, HC, hst, hown, hrow, hbel, hws⟩ := hrel
            by_cases hlt2 : j < c.w.length
            · obtain ⟨x, hx⟩ : ∃ x, c.w[j]? = some x := ⟨c.w[j], List.getElem?_eq_getElem hlt2⟩
              obtain ⟨b1, off1, rfl, hb1, hc1⟩ := hoW (by omega)
              have e0 := (hbel.cell (p := ⟨b1, off1 + j, none⟩) hb1).trans (hc1 j x hx)
              obtain ⟨n, hn⟩ : ∃ n, ws[n]? = some x := by
                obtain ⟨n, hn, e⟩ := List.mem_iff_getElem.1 (unhide HIN c (List.mem_of_getElem? (unhide HX)) x (List.mem_of_getElem? hx))
                exact ⟨n, by rw [List.getElem?_eq_getElem hn, e]⟩
              have hnl := (List.getElem?_eq_some_iff.1 hn).1
              obtain ⟨⟨x', ⟨sa, sn, sc⟩, qs⟩, hsn⟩ : ∃ y, st2[n]? = some y := ⟨st2[n]'(by rw [(unhide HC).1]; exact hnl), List.getElem?_eq_getElem _⟩
              obtain ⟨hx', hqp⟩ := (unhide HC).2 n _ hsn
              simp only at hx' hqp
              obtain rfl : x' = x := by rw [hn] at hx'; exact (Option.some.inj hx').symm
              have hO := hst.1 _ (List.mem_of_getElem? hsn)
              simp only at hO
              obtain rfl : sn = qs.length := own_n hO.1
              have hns : x'.size ≤ maxLen := by have := hz x' (List.mem_of_getElem? hn); unfold maxLen; omega
              have hq1 : qs.length ≤ 1000 := by
                have e := congrArg List.length hqp
                simp only [List.length_map] at e
                have := S.posts_len (L.take i ++ [⟨c.id, c.key, c.w.take j⟩]) x'
                simp at this
                omega
              have hq2 : ∀ q ∈ qs, q.1.a.length ≤ 1000 := by
                intro q hq
                have hm9 : q.1 ∈ (S.posts (L.take i ++ [⟨c.id, c.key, c.w.take j⟩]) x').map S.pt := by rw [← hqp]; exact List.mem_map_of_mem hq
                obtain ⟨p, hp, hpe⟩ := List.mem_map.1 hm9
                rw [← hpe]
                refine S.posts_sizes hp fun c' hc' => ?_
                rcases List.mem_append.1 hc' with h9 | h9
                · have := hcw c' (List.mem_of_mem_take h9); omega
                · simp only [List.mem_singleton] at h9
                  subst h9
                  simp
                  omega
              obtain ⟨gA, capA, hu6, hbA, hlA⟩ := hrow.form (by omega)
              subst hu6
              have hgA : w.heap.size + 1 ≤ gA := hbA
              have r1 : wr.cell? ⟨gA, n * 2 + 1, none⟩ = some (.slice sa qs.length sc) := by
                have := hrow.cells (g := gA) rfl (n * 2 + 1) _ (by rw [flat_at encS_len hsn 1 (by decide)]; rfl)
                simpa [Addr.add_lit, sv] using this
              have hil2 : i ≤ 64 := by omega
              have CB := behind_any (sa, qs.length, sc) qs i j (w.heap.size + 1) wr hO hws hq1 hq2
              have HN1 := hide hn
              have HSN := hide hsn
              have HXW := hide hx
              have HO := hide hO
              clear hc1 hx hx' hqp hq1 hq2 hn hsn hO
              go_wp2_with (first
                | (at_lookup; refine lookup_num rfl _ _ rfl rfl hown (unhide HN) (unhide HN1) hnl hns rfl ?_)
                | (go_at_call 69; refine CB.mono ?_; rintro e w2 ⟨⟨sa', sn', sc'⟩, qs', rfl, OB, QB, BB, KB⟩
                   have RW2 := own_keep hrow (fun b' hb' => KB.2 b' (hrow.lt b' hb').2 (fun hm => (unhide HO).far hrow hb' hm rfl))
                   have r2 : w2.cell? ⟨gA, n * 2 + 1, none⟩ = some (.slice sa qs.length sc) := by
                     have := RW2.cells (g := gA) rfl (n * 2 + 1) _ (by rw [flat_at encS_len (unhide HSN) 1 (by decide)]; rfl)
                     simpa [Addr.add_lit, sv] using this
                   have f2 : w2.frozen? ⟨gA, n * 2 + 1, none⟩ = false := RW2.frozenAt (n * 2 + 1)
                   simp only [sv]))
              have HQB := hide QB
              have ST2 : St (w.heap.size + 1) (w2.setCell ⟨gA, n * 2 + 1, none⟩ (.slice sa' sn' sc')) (st2.set n (x', (sa', sn', sc'), qs')) := by
                have S2 := hst.step (unhide HSN) OB BB KB
                refine S2.keep fun y hy k hk => Below.heap_setCell w2 _ _ k fun e => ?_
                exact (S2.1 y hy).far RW2 rfl hk e
              have RW3 : (w2.setCell ⟨gA, n * 2 + 1, none⟩ (.slice sa' sn' sc')).ownsRow (w.heap.size + 1) 69 2 (.slice (some ⟨gA, 0, none⟩) ws.length capA) ws.length ((st2.set n (x', (sa', sn', sc'), qs')).flatMap encS) := by
                have := (RW2.stored (n * 2 + 1) (.slice sa' sn' sc')).1
                rw [flat_set encS_len (y' := (x', (sa', sn', sc'), qs')) (unhide HSN) (by decide) rfl] at this
                exact this
              have M3 : (w2.setCell ⟨gA, n * 2 + 1, none⟩ (.slice sa' sn' sc')).ownsMap Tryz.prog 9 (plainElem Tryz.prog 3) w.heap.size ws.length M := (map_keep hown (KB.2 _ hown.lt fun hm => by have := ((unhide HO).lt hm).1; omega)).setCell (by show w.heap.size ≠ gA; omega) _
              have B3 : Below w.heap.size w (w2.setCell ⟨gA, n * 2 + 1, none⟩ (.slice sa' sn' sc')) := (hbel.trans (KB.below (by omega) fun k hk => by have := ((unhide HO).lt hk).1; omega)).setCell (by show w.heap.size ≤ gA; omega) _
              have hs3 : w.heap.size + 1 ≤ (w2.setCell ⟨gA, n * 2 + 1, none⟩ (.slice sa' sn' sc')).heap.size := by have := KB.1.size; simp; omega
              clear RW2 r2 f2 OB BB KB hst hrow hown hbel QB
              go_roundw
              case rel =>
                refine ⟨j + 1, _, by omega, by go_num, ?_, ST2, M3, RW3, B3, hs3⟩
                have hli : (L.take i).length = i := by simp; omega
                refine (unhide HC).step (unhide HR) (unhide HXW) (unhide HSN) ?_
                rw [hli]
                exact unhide HQB
              case measure => simp [intOf]; omega
            · have hkl : j = c.w.length := by omega
              go_wp2
              go_roundw
              case rel =>
                refine ⟨i + 1, st2, by omega, by go_num, ?_, hst, hown, hrow, hbel, hws⟩
                have e := unhide HC
                have e2 : c.w.take j = c.w := List.take_of_length_le (by omega)
                rw [e2] at e
                rw [take_snoc8 (unhide HX)]
                exact e
              case measure => simp [intOf]; omega
        · have hkl : i = L.length := by omega
          have HC1 := unhide HC
          rw [List.take_of_length_le (by omega)] at HC1
          have T1 : TS (w.heap.size + 1) wr u6 ws L := ⟨st1, HC1, hst, hrow⟩
          go_wp2
          go_ret
          exact ⟨_, rfl, T1, hbel⟩
end Go.Proofs.YtnahjaloodeicaaGreat
