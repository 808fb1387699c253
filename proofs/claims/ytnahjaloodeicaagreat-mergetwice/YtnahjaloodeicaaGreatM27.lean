/-
  Texts put together: Order11.
-/
import Derived.Test.YtnahjaloodeicaaGreatM26
import Derived.Test.YtnahjaloodeicaaGreatM22
import Derived.Test.YtnahjaloodeicaaGreatM11
import Derived.Test.YtnahjaloodeicaaGreatM09
/-
  The contract of merge's order.
-/
namespace Go.Proofs.YtnahjaloodeicaaGreat
set_option maxRecDepth 100000
open Go.RowKit Go.Deep

theorem idx_sorted {s : Sg} {so0 : Bool} (h : MayP s so0) : R.order s.keys s.ids = (G.idx true s).map fun i : Nat => (i : Int) := by
  unfold R.order G.idx
  rw [if_pos ⟨h.heads.nk, by have := h.heads.nk; have := h.heads.n64; omega⟩, if_pos rfl]
theorem tab_all : ∀ (n : Nat) (m : Int), R.tab m (List.replicate n true) = (List.range n).map fun i : Nat => m + (i : Int)
  | 0, _ => rfl
  | n + 1, m => by
    rw [List.range_succ, List.map_append, List.replicate_succ', R.tab_app, tab_all n m]
    have : R.cnt (List.replicate n true) = n := by simp [R.cnt]
    rw [this]
    simp [R.tab]
theorem idx_plain {s : Sg} (h : s.ids.length ≤ 64) : R.table (L.new (s.ids.length : Int)) 0 = (G.idx false s).map fun i : Nat => (i : Int) := by
  rw [new_fill _ h]
  have e : (List.range s.ids.length).map (fun _ => true) = List.replicate s.ids.length true := by
    rw [List.eq_replicate_iff]
    simp
  unfold R.table G.idx
  rw [e, if_pos (by simp; omega), if_neg (by simp), tab_all]
  simp

set_option maxRecDepth 100000 in
set_option maxHeartbeats 2000000 in
theorem orderM_any (ia ka lna ta : Option Addr) (ic kc lnc tc : Nat) (s : Sg) (so0 so : Bool) (w : World) (h : Sv w (.slice ia s.ids.length ic) (.slice ka s.keys.length kc) (.slice lna s.lens.length lnc) (.slice ta s.ts.length tc) s) (hM : MayP s so0) :
    Calls Tryz.prog 73 #[.agg #[.slice ia s.ids.length ic, .slice ka s.keys.length kc, .slice lna s.lens.length lnc, .slice ta s.ts.length tc, .bool so0], .bool so] w (MadeN w ((G.idx so s).map fun i : Nat => (i : Int))) := by
  obtain ⟨W, hW⟩ : ∃ W, W = w.alloc (.cells #[.slice ia s.ids.length ic, .slice ka s.keys.length kc, .slice lna s.lens.length lnc, .slice ta s.ts.length tc, .bool so0] 30) := ⟨_, rfl⟩
  have BW : Below w.heap.size w W := by rw [hW]; exact below_alloc _ _
  have HV := h.below BW
  have HW := hide hW
  have hsW : w.heap.size ≤ W.heap.size := BW.size
  clear hW h
  cases so with
  | true =>
    have CO := order_any _ _ s.keys s.ids W (Il.of HV.2.1) HV.1
    rw [idx_sorted hM] at CO
    clear HV hM
    go_enter Tryz.func73, Tryz.ntmps73
    go_wp2_with fail
    rw [← unhide HW]
    refine CO.mono ?_
    rintro e w1 ⟨v', rfl, O, B1⟩
    have HO := hide (own_mono O hsW)
    have BB := below_trans' BW B1
    clear CO O B1
    go_wp2
    go_ret
    exact ⟨_, rfl, unhide HO, BB⟩
  | false =>
    have CN := new_any (s.ids.length : Int) W
    have CT := fun (v : Value) (w1 : World) (h1 : Gl .bool w1 v (L.new (s.ids.length : Int))) => table_any v _ 0 w1 h1
    rw [idx_plain hM.heads.n64] at CT
    clear HV hM
    go_enter Tryz.func73, Tryz.ntmps73
    go_wp2_with fail
    rw [← unhide HW]
    refine CN.mono ?_
    rintro e w1 ⟨v', rfl, O, B1⟩
    have C2 := CT v' w1 (Gl.owned O)
    have BB := below_trans' BW B1
    have hsz := BB.size
    clear CN CT O B1
    go_wp2_with fail
    refine C2.mono ?_
    rintro e w2 ⟨v2, rfl, O2, B2⟩
    have HO := hide (own_mono O2 hsz)
    have B3 := below_trans' BB B2
    clear C2 O2 B2
    go_wp2
    go_ret
    exact ⟨_, rfl, unhide HO, B3⟩
end Go.Proofs.YtnahjaloodeicaaGreat
