/-
  Where words stand, place by place, and rows of words with their postings of the call's own ('St'). No function of the program is named here.
-/
import Derived.Test.YtonhehhmnobciaaBehind8
import Derived.Test.YtonhehhmnobciaaSmall8
import Derived.Maps.OwnOps
namespace Go.Proofs.Ytonhehhmnobciaa
set_option maxRecDepth 100000
open Go.RowKit Go.WideMaps Go.Maps

namespace S
theorem posts_snoc (l : List Cd) (c : Cd) (t : ByteArray) : posts (l ++ [c]) t = posts l t ++ if places c.w t = [] then [] else [((l.length : Int), places c.w t)] := by
  unfold posts
  rw [pst_app]
  simp [pst]

theorem beh_step {l : List Cd} {id : ByteArray} {key : Int} {ws : List ByteArray} {j : Nat} {t : ByteArray} (h : ws[j]? = some t) :
    behind ((posts (l ++ [⟨id, key, ws.take j⟩]) t).map pt) l.length j = (posts (l ++ [⟨id, key, ws.take (j + 1)⟩]) t).map pt := by
  have hs := places_step h t
  rw [if_pos rfl] at hs
  rw [posts_snoc, posts_snoc]
  simp only [hs]
  by_cases hp : places (ws.take j) t = []
  · rw [hp, if_pos rfl, if_neg (by simp), List.append_nil, List.nil_append]
    rcases List.eq_nil_or_concat (posts l t) with e | ⟨init, p, e⟩
    · rw [e]; rfl
    · rw [List.concat_eq_append] at e
      rw [e, List.map_append, List.map_append, List.map_append]
      have hm : p ∈ posts l t := by rw [e]; simp
      obtain ⟨d, c, hd, rfl, -⟩ := mem_posts.1 hm
      have hdl := (List.getElem?_eq_some_iff.1 hd).1
      exact behind_new (l := init.map pt) (p := pt ((d : Int), places c.w t)) (by show (d : Int) ≠ _; omega)
  · rw [if_neg hp, if_neg (by simp), List.map_append, List.map_append]
    exact behind_old (l := (posts l t).map pt) (p := pt ((l.length : Int), places (ws.take j) t)) rfl

theorem oth_step {l : List Cd} {id : ByteArray} {key : Int} {ws : List ByteArray} {j : Nat} {t x : ByteArray} (h : ws[j]? = some x) (hne : x ≠ t) :
    posts (l ++ [⟨id, key, ws.take (j + 1)⟩]) t = posts (l ++ [⟨id, key, ws.take j⟩]) t := by
  have hs := places_step h t
  rw [if_neg hne, List.append_nil] at hs
  rw [posts_snoc, posts_snoc]
  simp only [hs]

theorem posts_none {l : List Cd} {id : ByteArray} {key : Int} {t : ByteArray} {ws : List ByteArray} : posts (l ++ [⟨id, key, ws.take 0⟩]) t = posts l t := by
  rw [posts_snoc]
  simp [places, plc]
theorem posts_sizes {l : List Cd} {t : ByteArray} {p : Int × List Int} (h : p ∈ posts l t) (hw : ∀ c ∈ l, c.w.length ≤ 1000) : p.2.length ≤ 1000 := by
  obtain ⟨j, c, hj, rfl, -⟩ := mem_posts.1 h
  exact Nat.le_trans (places_len _ _) (hw c (List.mem_of_getElem? hj))
end S

abbrev Tx := ByteArray × Pts × List (Pt × Pts)
def encS (x : Tx) : List Value := [.string x.1, sv x.2.1]
theorem encS_len (x : Tx) : (encS x).length = 2 := rfl
theorem encS_one (x : Tx) : ∀ u ∈ encS x, u.oneCell' = true := by
  intro u hu
  simp only [encS, List.mem_cons, List.not_mem_nil, or_false] at hu
  rcases hu with rfl | rfl <;> rfl

theorem flat_set {α : Type} {f : α → List Value} {k : Nat} (hk : ∀ y, (f y).length = k) {u : Value} {y' : α} : ∀ {l : List α} {i j : Nat} {y : α}, l[i]? = some y → j < k → f y' = (f y).set j u → (l.flatMap f).set (i * k + j) u = (l.set i y').flatMap f
  | [], i, j, y, h, _, _ => by simp at h
  | z :: l, i, j, y, h, hj, hf => by
    cases i with
    | zero =>
      simp at h
      subst h
      rw [List.flatMap_cons, List.set_cons_zero, List.flatMap_cons, hf, Nat.zero_mul, Nat.zero_add, List.set_append_left _ _ (by rw [hk]; exact hj)]
    | succ i =>
      rw [List.flatMap_cons, List.set_cons_succ, List.flatMap_cons, List.set_append_right _ _ (by rw [hk, Nat.add_mul, Nat.one_mul]; omega), hk, show (i + 1) * k + j - k = i * k + j by rw [Nat.add_mul, Nat.one_mul]; omega]
      rw [flat_set hk (by simpa using h) hj hf]

/-- Postings of many words, all apart. -/
def St (B : Nat) (w : World) (st : List Tx) : Prop := (∀ x ∈ st, Own8 B w x.2.1 x.2.2) ∧ ∀ (i j : Nat) (x y : Tx), i ≠ j → st[i]? = some x → st[j]? = some y → ∀ k, Bl x.2.1 x.2.2 k → ¬ Bl y.2.1 y.2.2 k

theorem St.keep {B : Nat} {w w' : World} {st : List Tx} (h : St B w st) (hk : ∀ x ∈ st, ∀ k, Bl x.2.1 x.2.2 k → w'.heap[k]? = w.heap[k]?) : St B w' st := ⟨fun x hx => (h.1 x hx).keep (hk x hx), h.2⟩
theorem St.below {B : Nat} {w w' : World} {st : List Tx} (h : St B w st) (hb : Below w.heap.size w w') : St B w' st := h.keep fun x hx k hk => hb.block k ((h.1 x hx).lt hk).2

theorem St.step {B : Nat} {w w' : World} {st : List Tx} {i : Nat} {t : ByteArray} {s s' : Pts} {qs qs' : List (Pt × Pts)} (h : St B w st) (hi : st[i]? = some (t, s, qs)) (ho : Own8 B w' s' qs') (hb : ∀ j, Bl s' qs' j → Bl s qs j ∨ w.heap.size ≤ j) (hk : Kept (Bl s qs) w w') : St B w' (st.set i (t, s', qs')) := by
  obtain ⟨hil, hie⟩ := List.getElem?_eq_some_iff.1 hi
  have key : ∀ (j : Nat) (x : Tx), (st.set i (t, s', qs'))[j]? = some x → (j = i ∧ x = (t, s', qs')) ∨ (j ≠ i ∧ st[j]? = some x) := by
    intro j x hx
    by_cases e : i = j
    · subst e
      rw [List.getElem?_set_self hil] at hx
      exact .inl ⟨rfl, (Option.some.inj hx).symm⟩
    · rw [List.getElem?_set_ne e] at hx
      exact .inr ⟨fun e' => e e'.symm, hx⟩
  refine ⟨fun x hx => ?_, fun a b x y hab hx hy k hbx hby => ?_⟩
  · obtain ⟨j, hj, hjx⟩ := List.mem_iff_getElem.1 hx
    rcases key j x (by rw [List.getElem?_eq_getElem hj, hjx]) with ⟨-, rfl⟩ | ⟨hne, hjs⟩
    · exact ho
    · have hx' := List.mem_of_getElem? hjs
      refine (h.1 x hx').keep fun k hk' => hk.2 k ((h.1 x hx').lt hk').2 fun hm => ?_
      exact h.2 j i x (t, s, qs) hne hjs hi k hk' hm
  · rcases key a x hx with ⟨rfl, rfl⟩ | ⟨hna, hax⟩
    · rcases key b y hy with ⟨rfl, -⟩ | ⟨hnb, hby'⟩
      · exact hab rfl
      · rcases hb k hbx with h1 | h1
        · exact h.2 _ _ _ _ hab hi hby' k h1 hby
        · have := ((h.1 y (List.mem_of_getElem? hby')).lt hby).2
          omega
    · rcases key b y hy with ⟨rfl, rfl⟩ | ⟨hnb, hby'⟩
      · rcases hb k hby with h1 | h1
        · exact h.2 _ _ _ _ hab hax hi k hbx h1
        · have := ((h.1 x (List.mem_of_getElem? hax)).lt hbx).2
          omega
      · exact h.2 _ _ _ _ hab hax hby' k hbx hby

/-- No block of postings is one of words. -/
theorem Own8.far {B B' : Nat} {w : World} {s : Pts} {qs : List (Pt × Pts)} (h : Own8 B w s qs) {v : Value} {n g : Nat} {xs : List Value} (ho : w.ownsRow B' 66 2 v n xs) (hg : v.ownBlock = some g) {k : Nat} (hk : Bl s qs k) : k ≠ g := by
  intro e
  subst e
  rcases hk with hk | ⟨q, hq, hk⟩
  · rcases own_apart h.1 ho (by decide) with h1 | h1
    · rw [h1] at hk; cases hk
    · exact h1 (by rw [hk, hg])
  · rcases own_apart (h.2.1 q hq) ho (by decide) with h1 | h1
    · rw [h1] at hk; cases hk
    · exact h1 (by rw [hk, hg])

theorem map_keep {H : Type} {P : Program} {k : TypeId} {R : Value → Option (DataW H × List MemPlace)} {w w' : World} {b n : Nat} {D : DataW H} (h : w.ownsMap P k R b n D) (hb : w'.heap[b]? = w.heap[b]?) : w'.ownsMap P k R b n D := by
  obtain ⟨es, clock, h1, r⟩ := h
  exact ⟨es, clock, hb.trans h1, r⟩

/-- The words, in their order, with the postings of the cards l. -/
def Cur (st : List Tx) (ws : List ByteArray) (l : List Cd) : Prop := st.length = ws.length ∧ ∀ (j : Nat) (x : Tx), st[j]? = some x → ws[j]? = some x.1 ∧ x.2.2.map (·.1) = (S.posts l x.1).map S.pt

def toT (x : Tx) : Tm × Pts := (⟨x.1, x.2.2.map (·.1)⟩, x.2.1)
theorem flat_toT (st : List Tx) : st.flatMap encS = (st.map toT).flatMap encT := by
  rw [List.flatMap_map]
  rfl

theorem Cur.ts {B B' n : Nat} {w : World} {v : Value} {st : List Tx} {ws : List ByteArray} {l : List Cd} (h : Cur st ws l) (hs : St B w st) (ho : w.ownsRow B' 66 2 v n (st.flatMap encS)) : Ts w v (ws.map (S.term l)) := by
  rw [flat_toT] at ho
  have := Ts.own ho (fun p hp => by
    obtain ⟨x, hx, rfl⟩ := List.mem_map.1 hp
    exact (hs.1 x hx).pl)
  have e : (st.map toT).map (·.1) = ws.map (S.term l) := by
    apply List.ext_getElem?
    intro j
    rw [List.map_map, List.getElem?_map, List.getElem?_map]
    cases hj : st[j]? with
    | none =>
      have : ws[j]? = none := by rw [List.getElem?_eq_none_iff] at hj ⊢; have := h.1; omega
      rw [this]; rfl
    | some x =>
      obtain ⟨h1, h2⟩ := h.2 j x hj
      rw [h1]
      simp only [Option.map_some, Function.comp, toT, S.term, h2]
  rw [e] at this
  exact this

/-- Words with the postings of the cards l, in rows of the call's own. -/
def TS (B : Nat) (w : World) (v : Value) (ws : List ByteArray) (l : List Cd) : Prop := ∃ st, Cur st ws l ∧ St B w st ∧ w.ownsRow B 66 2 v ws.length (st.flatMap encS)
theorem TS.ts {B : Nat} {w : World} {v : Value} {ws : List ByteArray} {l : List Cd} (h : TS B w v ws l) : Ts w v (ws.map (S.term l)) := by
  obtain ⟨st, h1, h2, h3⟩ := h
  exact h1.ts h2 h3
theorem TS.below {B : Nat} {w w' : World} {v : Value} {ws : List ByteArray} {l : List Cd} (h : TS B w v ws l) (hb : Below w.heap.size w w') : TS B w' v ws l := by
  obtain ⟨st, h1, h2, h3⟩ := h
  exact ⟨st, h1, h2.below hb, own_below h3 hb⟩
/-- A store below the rows leaves them. -/
theorem TS.set {B : Nat} {w : World} {v : Value} {ws : List ByteArray} {l : List Cd} (h : TS B w v ws l) {p : Addr} (hp : p.block < B) (u : Value) : TS B (w.setCell p u) v ws l := by
  obtain ⟨st, h1, h2, h3⟩ := h
  refine ⟨st, h1, h2.keep fun x hx k hk => Below.heap_setCell w p u k fun e => ?_, own_set h3 (fun k hk e => ?_) u⟩
  · have := ((h2.1 x hx).lt hk).1
    omega
  · have := (h3.lt k hk).1
    omega

theorem Cur.step {st : List Tx} {ws : List ByteArray} {l : List Cd} {id : ByteArray} {key : Int} {cw : List ByteArray} {j i : Nat} {t : ByteArray} {s s' : Pts} {qs qs' : List (Pt × Pts)} (h : Cur st ws (l ++ [⟨id, key, cw.take j⟩])) (hr : D.Rise ws) (hw : cw[j]? = some t) (hi : st[i]? = some (t, s, qs))
    (hq : qs'.map (·.1) = S.behind (qs.map (·.1)) l.length j) : Cur (st.set i (t, s', qs')) ws (l ++ [⟨id, key, cw.take (j + 1)⟩]) := by
  obtain ⟨hil, hie⟩ := List.getElem?_eq_some_iff.1 hi
  refine ⟨by simp [h.1], fun a x hx => ?_⟩
  by_cases e : i = a
  · subst e
    rw [List.getElem?_set_self hil] at hx
    obtain rfl := Option.some.inj hx
    obtain ⟨h1, h2⟩ := h.2 i _ hi
    refine ⟨h1, ?_⟩
    simp only at h2 ⊢
    rw [hq, h2]
    exact S.beh_step hw
  · rw [List.getElem?_set_ne e] at hx
    obtain ⟨h1, h2⟩ := h.2 a x hx
    refine ⟨h1, ?_⟩
    rw [S.oth_step hw, h2]
    rintro rfl
    have e1 : D.bel ws x.1 = i := D.bel_self hr (h.2 i _ hi).1
    have e2 := D.bel_self hr h1
    omega

/-- The map tells where each of the first k words stands. -/
def Nums (M : DataW Unit) (ws : List ByteArray) (k : Nat) : Prop := IsMap M ∧ ∀ (j : Nat) (t : ByteArray), j < k → ws[j]? = some t → M.atKey (.string t.data.toList) (.lit (.int .i64 0)) = .lit (.int .i64 j)
theorem Nums.start (ws : List ByteArray) : Nums (.map []) ws 0 := ⟨isMap_empty, fun j t hj => by omega⟩
theorem Nums.step {M : DataW Unit} {ws : List ByteArray} {k : Nat} {x : ByteArray} (h : Nums M ws k) (hr : D.Rise ws) (hx : ws[k]? = some x) : Nums (M.put (.string x.data.toList) (.lit (.int .i64 k))) ws (k + 1) := by
  refine ⟨h.1.put _ _, fun j t hj ht => ?_⟩
  by_cases e : j = k
  · subst e
    rw [hx] at ht
    cases ht
    rw [atKey_put_same h.1 (by simp [WideAt.IsKeyLit])]
  · rw [atKey_put_other (lit_ne ?_)]
    · exact h.2 j t (by omega) ht
    · rintro rfl
      have e1 := D.bel_self hr ht
      have e2 := D.bel_self hr hx
      omega

/-- 'numbers[word]': where the word stands. -/
theorem lookup_num {ops : Array Oper} {rest : List Oper} {o : Oper} {a : Act} {Q : Exit → Act → World → Prop} {w : World} {b n j : Nat} {M : DataW Unit} {ws : List ByteArray} {t : ByteArray} (hg : o.guard = none) (m x : Operand) (hop : o.op = Op.lookup 103 m x false) (hm : a.eval m = .map (some b))
    (ho : w.ownsMap Try.prog 9 (plainElem Try.prog 3) b n M) (hN : Nums M ws n) (hj : ws[j]? = some t) (hjn : j < n) (ht : t.size ≤ maxLen) (hx : a.eval x = .string t)
    (hK : wpList Try.prog ops Q rest (a.put o.dst (.int .i64 (j : Int))) w) : wpList Try.prog ops Q (o :: rest) a w := by
  refine wpList_lookup_own_int _ hg m x _ hop 9 3 .i64 keyed9 Try.underlying103 Try.underlying3 (zero3 _) b n M hm ho _ _ hx (keyOf_string_mk Try.underlying9 ht) ?_
  intro c hc _
  rw [hN.2 j t hjn hj] at hc
  simp only [DataW.lit.injEq, Lit.int.injEq, true_and] at hc
  rw [← hc]
  exact hK
end Go.Proofs.Ytonhehhmnobciaa
