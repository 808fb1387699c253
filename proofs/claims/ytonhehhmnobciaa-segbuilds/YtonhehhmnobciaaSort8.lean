/-
  The contract of slices.SortFunc at cards, with compare: a row of the call's own is put in order.
-/
import Derived.Test.YtonhehhmnobciaaShelf8
import Derived.Test.YtonhehhmnobciaaCmp8
import Derived.Sort.OwnSorted
namespace Go.Proofs.Ytonhehhmnobciaa
set_option maxRecDepth 100000
open Go.Shelf Go.Sort Go.Proofs Go.RowKit

abbrev Cp := Cd × Pts
def noC : Cp := (⟨⟨#[]⟩, 0, []⟩, (none, 0, 0))

theorem Sort8.heap {w : World} {g n : Nat} {os : Array Obj} {cur : Array Value} {e : TypeId} {fr : Nat × Nat} (F : Array Value) (hb : w.heap[g]? = some (.cells cur e fr)) :
    (grow (putRow id (Sort.ahead w n) g 0 F) os).heap[g]? = some (.cells (putCells id 0 F cur) e fr) := by
  have hg : g < w.heap.size := (Array.getElem?_eq_some_iff.1 hb).1
  rw [heap_grow_old _ _ (by simpa using hg)]
  simp [putRow, mapBlock, Sort.ahead, Array.getElem?_modify, hb, onCells]

theorem Sort8.grown {w : World} {g n : Nat} {os : Array Obj} (F : Array Value) : w.grownBy (grow (putRow id (Sort.ahead w n) g 0 F) os) (some g) := by
  refine ⟨rfl, rfl, rfl, by simp, fun k hk hne => ?_⟩
  rw [heap_grow_old _ _ (by simpa using hk)]
  have : g ≠ k := fun e => hne (by rw [e])
  simp [putRow, mapBlock, Sort.ahead, Array.getElem?_modify, this]

theorem Sort8.take (cur F : Array Value) (h : F.size ≤ cur.size) : (putCells id 0 F cur).toList.take F.size = F.toList := by
  apply List.ext_getElem?
  intro j
  by_cases hj : j < F.size
  · rw [List.getElem?_take_of_lt hj, Array.getElem?_toList, Array.getElem?_toList]
    simp [putCells, hj, show j < cur.size by omega]
  · rw [List.getElem?_take_eq_none (by omega), List.getElem?_eq_none (by simp; omega)]

section
variable {α : Type} [Inhabited α]
theorem flatK_list (enc : α → List Value) (k : Nat) (hk : ∀ x, (enc x).length = k) (hk0 : 0 < k) (d : List α) : (flatK enc k d.toArray).toList = d.flatMap enc := by
  apply List.ext_getElem?
  intro t
  by_cases ht : t < d.length * k
  · have hq : t / k < d.length := Nat.div_lt_of_lt_mul (by rw [Nat.mul_comm]; exact ht)
    have hm : t % k < k := Nat.mod_lt _ hk0
    have h1 := flat_at hk (List.getElem?_eq_getElem hq) (t % k) hm
    rw [show t / k * k + t % k = t by rw [Nat.mul_comm]; exact Nat.div_add_mod t k] at h1
    rw [h1, Array.getElem?_toList, Array.getElem?_eq_getElem (by simpa using ht)]
    have h2 := get_flatK enc k d.toArray t (by simpa using ht)
    rw [getElem!_pos _ _ (by simpa using ht)] at h2
    rw [h2, List.getElem?_eq_getElem (by rw [hk]; exact hm)]
    simp [getElem!_pos, hq, hk, hm]
  · rw [List.getElem?_eq_none (by simp; omega), List.getElem?_eq_none (by rw [flat_len hk]; omega)]
end

theorem S.swo [Inhabited Cp] : SWO (ltOf fun x y : Cp => S.cmp x.1 y.1) where
  irrefl x := by show decide _ = false; rw [S.cmp_before]; exact S.before_irrefl _
  trans x y z h1 h2 := by
    have e : ∀ a b : Cp, ltOf (fun x y : Cp => S.cmp x.1 y.1) a b = S.before a.1 b.1 := fun a b => S.cmp_before a.1 b.1
    rw [e] at *
    exact S.before_trans h1 h2
  ntrans x y z h1 h2 := by
    have e : ∀ a b : Cp, ltOf (fun x y : Cp => S.cmp x.1 y.1) a b = S.before a.1 b.1 := fun a b => S.cmp_before a.1 b.1
    rw [e] at *
    cases h3 : S.before x.1 z.1 with
    | false => rfl
    | true =>
      exfalso
      rw [S.before_iff] at h3
      have h1' : ¬ S.before x.1 y.1 = true := by rw [h1]; decide
      have h2' : ¬ S.before y.1 z.1 = true := by rw [h2]; decide
      rw [S.before_iff] at h1' h2'
      rcases h3 with h3 | ⟨h3, h4⟩
      · have : y.1.key ≤ x.1.key := by omega
        have : z.1.key ≤ y.1.key := by omega
        omega
      · have a : ¬ K.lt x.1.id y.1.id = true := fun h => h1' (by
          rcases Int.lt_trichotomy x.1.key y.1.key with h5 | h5 | h5
          · exact .inl h5
          · exact .inr ⟨h5, h⟩
          · exact absurd (.inl (by omega)) h2')
        have b : ¬ K.lt y.1.id z.1.id = true := fun h => h2' (by
          rcases Int.lt_trichotomy y.1.key z.1.key with h5 | h5 | h5
          · exact .inl h5
          · exact .inr ⟨h5, h⟩
          · exact absurd (.inl (by omega)) h1')
        have a' : K.lt x.1.id y.1.id = false := by simpa using a
        have b' : K.lt y.1.id z.1.id = false := by simpa using b
        cases hyx : K.lt y.1.id x.1.id with
        | true =>
          have := K.lt_trans hyx h4
          rw [b'] at this
          cases this
        | false =>
          have e := K.lt_tri a' hyx
          rw [e] at h4
          rw [b'] at h4
          cases h4

/-- A row of cards of the call's own is put in order. -/
theorem sortC_any (B g cap : Nat) (ps : List Cp) (w : World) (h : w.ownsRow B 25 3 (.slice (some ⟨g, 0, none⟩) ps.length cap) ps.length (ps.flatMap encC)) (hu : S.Unlike (ps.map (·.1))) (hll : ps.length ≤ 1000) :
    Calls Try.prog 30 #[.slice (some ⟨g, 0, none⟩) ps.length cap, .func (.func 31) #[] #[]] w fun e w' =>
      e = .returned (.tuple #[]) ∧ ∃ ps' : List Cp, ps'.Perm ps ∧ S.Up (ps'.map (·.1)) ∧ w'.ownsRow B 25 3 (.slice (some ⟨g, 0, none⟩) ps.length cap) ps.length (ps'.flatMap encC) ∧ w.grownBy w' (some g) := by
  haveI : Inhabited Cp := ⟨noC⟩
  obtain ⟨cur, hb, hbg, hnc, hcm, hcs, htk⟩ : ∃ cur, w.heap[g]? = some (.cells cur 25 (0, 0)) ∧ B ≤ g ∧ ps.length ≤ cap ∧ cap ≤ maxLen ∧ cur.size = cap * 3 ∧ cur.toList.take (ps.length * 3) = ps.flatMap encC := by
    rcases h.2 with ⟨e, -⟩ | ⟨g', cap', cur, e, h1, h2, h3, h4, h5, h6⟩
    · cases e
    · simp only [Value.slice.injEq, Option.some.injEq, Addr.mk.injEq, and_true, true_and] at e
      obtain ⟨rfl, rfl⟩ := e
      exact ⟨cur, h2, h1, h3, h4, h5, h6⟩
  have hgs : g < w.heap.size := (Array.getElem?_eq_some_iff.1 hb).1
  have hH : HoldsK encC 3 w g 0 ps.toArray := by
    intro j hj
    rw [size_flatK] at hj
    simp only [List.size_toArray] at hj
    refine ⟨?_, by rw [Nat.zero_add]; exact h.frozenAt j⟩
    rw [Nat.zero_add, h.cellAt j hj, ← flatK_list encC 3 encC_len (by decide) ps, Array.getElem?_toList, Array.getElem?_eq_getElem (by simpa using hj), getElem!_pos _ _ (by simpa using hj)]
    rfl
  have eg : ∀ args w, (callFunc 31 args).run Try.prog w = .ok (.enter 31 args) w := enters_of Try.func31 (by kernel_rfl) rfl
  have hcmp : CmpLays Try.prog 31 #[] encC 3 (fun x y : Cp => S.cmp x.1 y.1) g 0 ps.toArray.size w := fun m os dk _ x y => compare_any x.1 y.1 x.2.1 y.2.1 x.2.2.1 x.2.2.2 y.2.2.1 y.2.2.2 _
  have hcon := AnyQ.slices_SortFunc Try.laysSortC 3 Try.isAgg25 Try.sizeOf25 encC encC_len encC_one (fun x y : Cp => S.cmp x.1 y.1) S.swo 31 #[] g 0 cap ps.toArray w eg hcmp hH hgs (by simp; omega)
  have hcon' : Calls Try.prog 30 #[.slice (some ⟨g, 0, none⟩) ps.toArray.size cap, .func (.func 31) #[] #[]] w _ := hcon
  rw [List.size_toArray] at hcon'
  refine hcon'.mono ?_
  rintro e w' ⟨he, d', n, os, ⟨hsz, -, hperm⟩, hsort, hw⟩
  simp only [List.size_toArray] at hsz hsort hperm
  have hd' : d'.toList.toArray = d' := by simp
  have hp : d'.toList.Perm ps := by
    have e1 : (d'.extract 0 ps.length).toList = d'.toList := by rw [← hsz]; simp
    have e2 : (ps.toArray.extract 0 ps.length).toList = ps := by simp
    rw [e1, e2] at hperm
    exact hperm
  have hF : (flatK encC 3 d').toList = d'.toList.flatMap encC := by
    have := flatK_list encC 3 encC_len (by decide) d'.toList
    rwa [hd'] at this
  have hlen : d'.toList.length = ps.length := by simpa using hsz
  refine ⟨he, d'.toList, hp, ?_, ⟨by rw [flat_len encC_len, hlen], .inr ⟨g, cap, putCells id 0 (flatK encC 3 d') cur, rfl, hbg, ?_, hnc, hcm, ?_, ?_⟩⟩, ?_⟩
  · unfold S.Up
    rw [List.pairwise_map, List.pairwise_iff_getElem]
    intro i j hi hj hij
    have h1 : ltOf (fun x y : Cp => S.cmp x.1 y.1) d'[j]! d'[i]! = false := hsort i j (by omega) hij (by omega)
    have h2 : S.before d'[j]!.1 d'[i]!.1 = false := by rw [← S.cmp_before]; exact h1
    have hi' : i < d'.size := by simpa using hi
    have hj' : j < d'.size := by simpa using hj
    rw [getElem!_pos d' i hi', getElem!_pos d' j hj'] at h2
    simp only [Array.getElem_toList]
    cases hb9 : S.before d'[i].1 d'[j].1 with
    | true => rfl
    | false =>
      exfalso
      have e9 := (S.before_tri hb9 h2).2
      have hu' : S.Unlike (d'.toList.map (·.1)) := hu.perm (hp.symm.map _)
      have := List.pairwise_iff_getElem.1 hu' i j (by simpa using hi') (by simpa using hj') hij
      simp at this
      exact this e9
  · rw [hw]
    exact Sort8.heap _ hb
  · simp [putCells, hcs]
  · have := Sort8.take cur (flatK encC 3 d') (by rw [size_flatK, hsz, hcs]; omega)
    rw [size_flatK, hsz, hF] at this
    exact this
  · rw [hw]
    exact Sort8.grown _
theorem sortC_none (p : Option Addr) (cap : Nat) (fv : Value) (w : World) : Calls Try.prog 30 #[.slice p 0 cap, fv] w fun e w' => e = .returned (.tuple #[]) ∧ w' = w := AnyF.slices_SortFunc_none Try.laysSortC p cap fv w
theorem sortC_all (B : Nat) (v : Value) (ps : List Cp) (w : World) (h : w.ownsRow B 25 3 v ps.length (ps.flatMap encC)) (hu : S.Unlike (ps.map (·.1))) (hll : ps.length ≤ 1000) :
    Calls Try.prog 30 #[v, .func (.func 31) #[] #[]] w fun e w' =>
      e = .returned (.tuple #[]) ∧ ∃ ps' : List Cp, ps'.Perm ps ∧ S.Up (ps'.map (·.1)) ∧ w'.ownsRow B 25 3 v ps.length (ps'.flatMap encC) ∧ w.grownBy w' v.ownBlock := by
  rcases id h.2 with ⟨rfl, h0⟩ | ⟨g, cap, cur, rfl, -⟩
  · have hp : ps = [] := List.eq_nil_of_length_eq_zero h0
    subst hp
    refine (sortC_none none 0 _ w).mono ?_
    rintro e w' ⟨rfl, rfl⟩
    exact ⟨rfl, [], List.Perm.refl _, .nil, h, grown_below (Below.refl _ _) _⟩
  · exact sortC_any B g cap ps w h hu hll
end Go.Proofs.Ytonhehhmnobciaa
