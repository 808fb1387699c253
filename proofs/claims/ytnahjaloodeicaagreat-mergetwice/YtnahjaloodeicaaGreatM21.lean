/-
  Texts put together: Sort10.
-/
import Derived.Test.YtnahjaloodeicaaGreatM20
import Derived.Test.YtnahjaloodeicaaGreatM17
import Derived.Sort.OwnSorted
/-
  The contract of slices.SortFunc at places, held against each other by Order's closure: a row of the call's own, of all places, is put in order.
-/
namespace Go.Proofs.YtnahjaloodeicaaGreat
set_option maxRecDepth 100000
open Go.Shelf Go.Sort Go.Proofs Go.RowKit

section
variable {α : Type} [Inhabited α] {enc : α → Value}
theorem sw10_heap {w : World} {g n : Nat} {os : Array Obj} {cur : Array Value} {e : TypeId} {fr : Nat × Nat} (F : Array α) (hb : w.heap[g]? = some (.cells cur e fr)) :
    (sortWorld enc w g 0 n F os).heap[g]? = some (.cells (putCells enc 0 F cur) e fr) := by
  have hg : g < w.heap.size := (Array.getElem?_eq_some_iff.1 hb).1
  show (grow (putRow enc (Sort.ahead w n) g 0 F) os).heap[g]? = _
  rw [heap_grow_old _ _ (by simpa using hg)]
  simp [putRow, mapBlock, Sort.ahead, Array.getElem?_modify, hb, onCells]
theorem sw10_grown {w : World} {g n : Nat} {os : Array Obj} (F : Array α) : w.grownBy (sortWorld enc w g 0 n F os) (some g) := by
  show w.grownBy (grow (putRow enc (Sort.ahead w n) g 0 F) os) (some g)
  refine ⟨rfl, rfl, rfl, by simp, fun k hk hne => ?_⟩
  rw [heap_grow_old _ _ (by simpa using hk)]
  have : g ≠ k := fun e => hne (by rw [e])
  simp [putRow, mapBlock, Sort.ahead, Array.getElem?_modify, this]
theorem sw10_take (cur : Array Value) (F : Array α) (h : F.size ≤ cur.size) : (putCells enc 0 F cur).toList.take F.size = F.toList.map enc := by
  apply List.ext_getElem?
  intro j
  by_cases hj : j < F.size
  · rw [List.getElem?_take_of_lt hj, Array.getElem?_toList, List.getElem?_map, Array.getElem?_toList]
    simp [putCells, hj, show j < cur.size by omega]
  · rw [List.getElem?_take_eq_none (by omega), List.getElem?_eq_none (by simp; omega)]
end

def R.enc (n : Nat) (x : Fin n) : Value := .int .i64 (x.1 : Int)
def R.cf (keys : List Int) (ids : List ByteArray) (n : Nat) (x y : Fin n) : Int := R.cmp keys ids x.1 y.1
theorem R.cf_lt (keys : List Int) (ids : List ByteArray) (n : Nat) (x y : Fin n) : ltOf (R.cf keys ids n) x y = R.lt keys ids x.1 y.1 := R.cmp_lt keys ids x.1 y.1
theorem R.swo (keys : List Int) (ids : List ByteArray) (n : Nat) [Inhabited (Fin n)] : SWO (ltOf (R.cf keys ids n)) where
  irrefl x := by rw [R.cf_lt]; exact R.lt_irrefl _ _ _
  trans x y z h1 h2 := by
    rw [R.cf_lt] at *
    exact R.lt_trans h1 h2
  ntrans x y z h1 h2 := by
    rw [R.cf_lt] at *
    cases h3 : R.lt keys ids x.1 z.1 with
    | false => rfl
    | true =>
      cases h4 : R.lt keys ids y.1 x.1 with
      | true =>
        have := R.lt_trans h4 h3
        rw [h2] at this
        cases this
      | false =>
        have e := R.lt_tri h1 h4
        rw [e, h2] at h3
        cases h3

theorem R.fin_val (n : Nat) : (List.finRange n).map (fun x : Fin n => x.1) = List.range n := by
  apply List.ext_getElem
  · simp
  · intro i h1 h2
    simp

/-- Numbers as they stand in a row. -/
def R.row (l : List Nat) : List Value := (l.map fun i : Nat => (i : Int)).map (Value.int .i64)
theorem R.row_enc (n : Nat) (l : List (Fin n)) : l.map (R.enc n) = R.row (l.map fun x => x.1) := by
  unfold R.row
  rw [List.map_map, List.map_map]
  rfl

theorem sort10_any (B g cap n P Q : Nat) (kv iv : Value) (keys : List Int) (ids : List ByteArray) (w0 w : World) (hn : 0 < n) (hn1 : n ≤ 1100) (h : w.ownsRow B 3 1 (.slice (some ⟨g, 0, none⟩) n cap) n (R.row (List.range n)))
    (hk : Il w0 kv keys) (hi : Gl .string w0 iv ids) (hb0 : Below w0.heap.size w0 w) (hB : w0.heap.size ≤ B) (hP : w.cell? ⟨P, 0, none⟩ = some kv) (hQ : w.cell? ⟨Q, 0, none⟩ = some iv) (hPB : P < B) (hQB : Q < B) (hlk : keys.length = n) (hli : ids.length = n) :
    Calls Tryz.prog 121 #[.slice (some ⟨g, 0, none⟩) n cap, .func (.func 111) #[] #[.pointer (some ⟨P, 0, none⟩), .pointer (some ⟨Q, 0, none⟩)]] w fun e w' =>
      e = .returned (.tuple #[]) ∧ w'.ownsRow B 3 1 (.slice (some ⟨g, 0, none⟩) n cap) n (R.row (R.ord keys ids n)) ∧ w.grownBy w' (some g) := by
  haveI : Inhabited (Fin n) := ⟨⟨0, hn⟩⟩
  obtain ⟨cur, hb, hbg, hnc, hcm, hcs, htk⟩ : ∃ cur, w.heap[g]? = some (.cells cur 3 (0, 0)) ∧ B ≤ g ∧ n ≤ cap ∧ cap ≤ maxLen ∧ cur.size = cap * 1 ∧ cur.toList.take (n * 1) = R.row (List.range n) := by
    rcases h.2 with ⟨e, -⟩ | ⟨g', cap', cur, e, h1, h2, h3, h4, h5, h6⟩
    · cases e
    · simp only [Value.slice.injEq, Option.some.injEq, Addr.mk.injEq, and_true, true_and] at e
      obtain ⟨rfl, rfl⟩ := e
      exact ⟨cur, h2, h1, h3, h4, h5, h6⟩
  have hgs : g < w.heap.size := (Array.getElem?_eq_some_iff.1 hb).1
  have hsz : (List.finRange n).toArray.size = n := by simp
  have hH : Holds (R.enc n) w g 0 (List.finRange n).toArray := by
    intro j hj
    rw [hsz] at hj
    refine ⟨?_, by rw [Nat.zero_add]; exact h.frozenAt j⟩
    rw [Nat.zero_add, h.cellAt j (by omega), getElem!_pos _ _ (by simpa using hj)]
    simp [R.row, R.enc, hj]
  have eg : ∀ args w, (callFunc 111 args).run Tryz.prog w = .ok (.enter 111 args) w := enters_of Tryz.func111 (by kernel_rfl) rfl
  have hcmp : CmpLays1 Tryz.prog 111 #[.pointer (some ⟨P, 0, none⟩), .pointer (some ⟨Q, 0, none⟩)] (R.enc n) (R.cf keys ids n) g 0 (List.finRange n).toArray.size w := by
    intro m os dk _ x y
    have hg := sw10_grown (enc := R.enc n) (w := w) (g := g) (n := m) (os := os) dk
    have hbel : Below w0.heap.size w0 (sortWorld (R.enc n) w g 0 m dk os) := hb0.grown hg hb0.size (fun k hk => by cases hk; omega)
    have p1 := hg.cell hP (by simp; omega)
    have q1 := hg.cell hQ (by simp; omega)
    exact cmp10_any P Q x.1 y.1 kv iv keys ids _ p1 q1 (hk.below hbel) (hi.below hbel) (by rw [hlk]; exact x.2) (by rw [hlk]; exact y.2) (by omega)
  have hcon := Any.slices_SortFunc Tryz.laysSortI (R.enc n) (fun _ => rfl) (R.cf keys ids n) (R.swo keys ids n) 111 #[.pointer (some ⟨P, 0, none⟩), .pointer (some ⟨Q, 0, none⟩)] g 0 cap (List.finRange n).toArray w eg hcmp hH hgs (by simp; omega)
  have hcon' : Calls Tryz.prog 121 #[.slice (some ⟨g, 0, none⟩) (List.finRange n).toArray.size cap, .func (.func 111) #[] #[.pointer (some ⟨P, 0, none⟩), .pointer (some ⟨Q, 0, none⟩)]] w _ := hcon
  rw [hsz] at hcon'
  refine hcon'.mono ?_
  rintro e w' ⟨he, d', m, os, ⟨hd, -, hperm⟩, hsort, hw⟩
  rw [hsz] at hd
  have hp : d'.toList.Perm (List.finRange n) := by
    have e1 : (d'.extract 0 n).toList = d'.toList := by simp only [Array.toList_extract, List.extract_eq_take_drop, Nat.sub_zero, List.drop_zero]; exact List.take_of_length_le (by simp [hd])
    have e2 : ((List.finRange n).toArray.extract 0 n).toList = List.finRange n := by simp only [Array.toList_extract, List.extract_eq_take_drop, Nat.sub_zero, List.drop_zero]; exact List.take_of_length_le (by simp)
    rw [e1, e2] at hperm
    exact hperm
  have hnd : d'.toList.Nodup := hp.nodup_iff.2 (List.nodup_finRange n)
  have hS : R.Sorted keys ids n (d'.toList.map fun x => x.1) := by
    refine ⟨?_, ?_⟩
    · unfold R.Up
      rw [List.pairwise_map, List.pairwise_iff_getElem]
      intro i j hi hj hij
      have hi' : i < d'.size := by simpa using hi
      have hj' : j < d'.size := by simpa using hj
      have h1 : ltOf (R.cf keys ids n) d'[j]! d'[i]! = false := hsort i j (by omega) hij (by omega)
      rw [R.cf_lt, getElem!_pos d' i hi', getElem!_pos d' j hj'] at h1
      simp only [Array.getElem_toList]
      cases h2 : R.lt keys ids d'[i].1 d'[j].1 with
      | true => rfl
      | false =>
        exfalso
        have e9 := R.lt_tri h2 h1
        rw [List.nodup_iff_pairwise_ne] at hnd
        have := List.pairwise_iff_getElem.1 hnd i j hi hj hij
        simp only [Array.getElem_toList] at this
        exact this (Fin.ext e9)
    · have := hp.map (fun x : Fin n => x.1)
      rw [R.fin_val] at this
      exact this
  have hE := hS.uniq (R.ord_sorted keys ids n)
  refine ⟨he, ⟨?_, .inr ⟨g, cap, putCells (R.enc n) 0 d' cur, rfl, hbg, ?_, hnc, hcm, ?_, ?_⟩⟩, ?_⟩
  · rw [← hE]
    simp [R.row, hd]
  · rw [hw]
    exact sw10_heap _ hb
  · simp [putCells, hcs]
  · have := sw10_take (enc := R.enc n) cur d' (by rw [hd, hcs]; omega)
    rw [hd, R.row_enc, hE] at this
    rw [Nat.mul_one]
    exact this
  · rw [hw]
    exact sw10_grown _
theorem sort10_none (p : Option Addr) (cap : Nat) (fv : Value) (w : World) : Calls Tryz.prog 121 #[.slice p 0 cap, fv] w fun e w' => e = .returned (.tuple #[]) ∧ w' = w := AnyF.slices_SortFunc_none { Tryz.laysSortI with } p cap fv w
end Go.Proofs.YtnahjaloodeicaaGreat
