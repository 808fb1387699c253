/-
  The contracts of layer 6 with their answers named, as the laws' walks take them; Few.
-/
import Derived.Test.YtjkaidlgooemoaaSeek6
import Derived.Test.YtjkaidlgooemoaaRPut6
import Derived.Test.YtjkaidlgooemoaaSame6
import Derived.Test.YtjkaidlgooemoaaRFind6
namespace Go.Proofs.Ytjkaidlgooemoaa
open Go.RowKit

theorem Pl.form' {w : World} {v : Value} {L : List Pt} (h : Pl w v L) : ∃ a n c, v = .slice a n c := by
  obtain ⟨a, c, h⟩ := h.form
  exact ⟨_, _, _, h⟩
theorem Sl.form' {k : IntKind} {w : World} {v : Value} {l : List Int} (h : Sl k w v l) : ∃ a n c, v = .slice a n c := by
  obtain ⟨a, c, h, -⟩ := h
  exact ⟨_, _, _, h⟩

theorem may_b (v : Value) (L : List Pt) (w : World) (h : Pl w v L) (r : Bool) (hr : Q.may L = r) : Calls Try.prog 15 #[v] w fun e w' => e = .returned (.bool r) ∧ Below w.heap.size w w' := by
  subst hr
  exact may_any v L w h
theorem rmay_b (v : Value) (L : List Pt) (w : World) (h : Pl w v L) (r : Bool) (hr : Q.may L = r) : Calls Try.prog 16 #[v] w fun e w' => e = .returned (.bool r) ∧ Below w.heap.size w w' := by
  subst hr
  exact rmay_any v L w h
theorem find_b (v : Value) (L : List Pt) (d : Int) (w : World) (h : Pl w v L) (r : Int) (hr : Q.find L d = r) : Calls Try.prog 17 #[v, .int .i64 d] w fun e w' => e = .returned (.int .i64 r) ∧ Below w.heap.size w w' := by
  subst hr
  exact find_any v L d w h
theorem rfind_b (v : Value) (L : List Pt) (d : Int) (w : World) (h : Pl w v L) (r : Int) (hr : Q.find L d = r) : Calls Try.prog 18 #[v, .int .i64 d] w fun e w' => e = .returned (.int .i64 r) ∧ Below w.heap.size w w' := by
  subst hr
  exact rfind_any v L d w h
theorem same_b (v u : Value) (L M : List Pt) (w : World) (h : Pl w v L) (k : Pl w u M) (r : Bool) (hr : Pt.eqs L M = r) : Calls Try.prog 19 #[v, u] w fun e w' => e = .returned (.bool r) ∧ Below w.heap.size w w' := by
  subst hr
  exact same_any v u L M w h k
theorem rsame_b (v u : Value) (L M : List Pt) (w : World) (h : Pl w v L) (k : Pl w u M) (r : Bool) (hr : Pt.eqs L M = r) : Calls Try.prog 14 #[v, u] w fun e w' => e = .returned (.bool r) ∧ Below w.heap.size w w' := by
  subst hr
  exact rsame_any v u L M w h k
theorem putEnd_b {w w' : World} {L : List Pt} {d x : Int} {e : Ending} (h : PutEnd w L d x e w') (R : List Pt) (en : Int) (h1 : Q.putA L d x = R) (h2 : Q.putE L d x = en) : ∃ a n c, e = .returned (.tuple #[.slice a n c, .int .i64 en]) ∧ Pl w' (.slice a n c) R ∧ Below w.heap.size w w' := by
  obtain ⟨v', he, hp, hb⟩ := h
  obtain ⟨a, n, c, rfl⟩ := hp.form'
  exact ⟨a, n, c, by rw [he, h2], by rw [← h1]; exact hp, hb⟩
theorem pput_b (v : Value) (L : List Pt) (d x : Int) (w : World) (h : Pl w v L) (hf : Fits L) (R : List Pt) (en : Int) (h1 : Q.putA L d x = R) (h2 : Q.putE L d x = en) :
    Calls Try.prog 12 #[v, .int .i64 d, .int .i64 x] w fun e w' => ∃ a n c, e = .returned (.tuple #[.slice a n c, .int .i64 en]) ∧ Pl w' (.slice a n c) R ∧ Below w.heap.size w w' :=
  (pput_any v L d x w h hf).mono fun _ _ h => putEnd_b h R en h1 h2
theorem rput_b (v : Value) (L : List Pt) (d x : Int) (w : World) (h : Pl w v L) (hf : Fits L) (R : List Pt) (en : Int) (h1 : Q.putA L d x = R) (h2 : Q.putE L d x = en) :
    Calls Try.prog 13 #[v, .int .i64 d, .int .i64 x] w fun e w' => ∃ a n c, e = .returned (.tuple #[.slice a n c, .int .i64 en]) ∧ Pl w' (.slice a n c) R ∧ Below w.heap.size w w' :=
  (rput_any v L d x w h hf).mono fun _ _ h => putEnd_b h R en h1 h2
theorem packEnd_b {w w' : World} {L : List Pt} {e : Ending} (h : PackEnd w L e w') (R : List Int) (en : Int) (h1 : Q.packA L = R) (h2 : Q.packE L = en) : ∃ a c, e = .returned (.tuple #[.slice a R.length c, .int .i64 en]) ∧ Sl .u8 w' (.slice a R.length c) R ∧ Below w.heap.size w w' := by
  obtain ⟨v', he, hp, hb⟩ := h
  rw [h1] at hp
  have hs := hp.sl
  obtain ⟨a, c, rfl, -⟩ := id hs
  exact ⟨a, c, by rw [he, h2], hs, hb⟩
theorem pack_b (v : Value) (L : List Pt) (w : World) (h : Pl w v L) (R : List Int) (en : Int) (h1 : Q.packA L = R) (h2 : Q.packE L = en) :
    Calls Try.prog 20 #[v] w fun e w' => ∃ a c, e = .returned (.tuple #[.slice a R.length c, .int .i64 en]) ∧ Sl .u8 w' (.slice a R.length c) R ∧ Below w.heap.size w w' :=
  (pack_any v L w h).mono fun _ _ h => packEnd_b h R en h1 h2
theorem rpack_b (v : Value) (L : List Pt) (w : World) (h : Pl w v L) (R : List Int) (en : Int) (h1 : Q.packA L = R) (h2 : Q.packE L = en) :
    Calls Try.prog 21 #[v] w fun e w' => ∃ a c, e = .returned (.tuple #[.slice a R.length c, .int .i64 en]) ∧ Sl .u8 w' (.slice a R.length c) R ∧ Below w.heap.size w w' :=
  (rpack_any v L w h).mono fun _ _ h => packEnd_b h R en h1 h2
theorem unpEnd_b {w w' : World} {l : List Int} {e : Ending} (h : UnpEnd w l e w') (R : List Pt) (en : Int) (h1 : Q.unpA l = R) (h2 : Q.unpE l = en) : ∃ a c, e = .returned (.tuple #[.slice a R.length c, .int .i64 en]) ∧ Pl w' (.slice a R.length c) R ∧ Below w.heap.size w w' := by
  obtain ⟨v', he, hp, hb⟩ := h
  rw [h1] at hp
  have hs := hp.pl
  obtain ⟨a, c, rfl⟩ := hs.form
  exact ⟨a, c, by rw [he, h2], hs, hb⟩
theorem unpack_b (v : Value) (l : List Int) (w : World) (h : Sl .u8 w v l) (hb : V.Byt l) (hl : l.length ≤ 1000000) (R : List Pt) (en : Int) (h1 : Q.unpA l = R) (h2 : Q.unpE l = en) :
    Calls Try.prog 22 #[v] w fun e w' => ∃ a c, e = .returned (.tuple #[.slice a R.length c, .int .i64 en]) ∧ Pl w' (.slice a R.length c) R ∧ Below w.heap.size w w' :=
  (unpack_any v l w h hb hl).mono fun _ _ h => unpEnd_b h R en h1 h2
theorem runpack_b (v : Value) (l : List Int) (w : World) (h : Sl .u8 w v l) (hb : V.Byt l) (hl : l.length ≤ 1000000) (R : List Pt) (en : Int) (h1 : Q.unpA l = R) (h2 : Q.unpE l = en) :
    Calls Try.prog 23 #[v] w fun e w' => ∃ a c, e = .returned (.tuple #[.slice a R.length c, .int .i64 en]) ∧ Pl w' (.slice a R.length c) R ∧ Below w.heap.size w w' :=
  (runpack_any v l w h hb hl).mono fun _ _ h => unpEnd_b h R en h1 h2
theorem seekEnd_b {w w' : World} {l : List Int} {d : Int} {e : Ending} (h : SeekEnd w l d e w') (pd : Int) (pa : List Int) (n en : Int) (h1 : Q.seekP l d = ⟨pd, pa⟩) (h2 : Q.seekN l d = n) (h3 : Q.seekE l d = en) :
    ∃ a m c, e = .returned (.tuple #[.agg #[.int .i64 pd, .slice a m c], .int .i64 n, .int .i64 en]) ∧ Sl .i64 w' (.slice a m c) pa ∧ Below w.heap.size w w' := by
  obtain ⟨a, m, c, he, hs, hb⟩ := h
  rw [h1] at he hs
  rw [h2, h3] at he
  exact ⟨a, m, c, he, hs, hb⟩
theorem seek_b (v : Value) (l : List Int) (d : Int) (w : World) (h : Sl .u8 w v l) (hb : V.Byt l) (hl : l.length ≤ 1000000) (pd : Int) (pa : List Int) (n en : Int) (h1 : Q.seekP l d = ⟨pd, pa⟩) (h2 : Q.seekN l d = n) (h3 : Q.seekE l d = en) :
    Calls Try.prog 25 #[v, .int .i64 d] w fun e w' => ∃ a m c, e = .returned (.tuple #[.agg #[.int .i64 pd, .slice a m c], .int .i64 n, .int .i64 en]) ∧ Sl .i64 w' (.slice a m c) pa ∧ Below w.heap.size w w' :=
  (seek_any v l d w h hb hl).mono fun _ _ h => seekEnd_b h pd pa n en h1 h2 h3
theorem rseek_b (v : Value) (l : List Int) (d : Int) (w : World) (h : Sl .u8 w v l) (hb : V.Byt l) (hl : l.length ≤ 1000000) (pd : Int) (pa : List Int) (n en : Int) (h1 : Q.seekP l d = ⟨pd, pa⟩) (h2 : Q.seekN l d = n) (h3 : Q.seekE l d = en) :
    Calls Try.prog 26 #[v, .int .i64 d] w fun e w' => ∃ a m c, e = .returned (.tuple #[.agg #[.int .i64 pd, .slice a m c], .int .i64 n, .int .i64 en]) ∧ Sl .i64 w' (.slice a m c) pa ∧ Below w.heap.size w w' :=
  (rseek_any v l d w h hb hl).mono fun _ _ h => seekEnd_b h pd pa n en h1 h2 h3

/-- A slice of one posting that has just been laid. -/
theorem Pl.lit {w : World} {p : Pt} {dv : Value} (h : Sl .i64 w dv p.a) : Pl (w.alloc (.cells #[.int .i64 p.d, dv] 39)) (.slice (some ⟨w.heap.size, 0, none⟩) 1 1) [p] := by
  refine ⟨_, 1, rfl, by simp, by unfold maxLen; omega, (fun h => by cases h), fun x hx i q hq => ?_⟩
  obtain rfl := Option.some.inj hx
  have hi : i = 0 := by
    have := (List.getElem?_eq_some_iff.1 hq).1
    simp at this
    omega
  subst hi
  simp at hq
  subst hq
  exact ⟨dv, by simp [Addr.add_lit], by simp [Addr.add_lit], h.below (below_alloc _ _)⟩

/-! ### Few -/

def Q.few (L : List Pt) : Bool := decide (L.length ≤ 70) && L.all (fun p => decide (p.a.length ≤ 130))
theorem Q.few_fits {L : List Pt} (h : Q.few L = true) : Fits L := by
  simp only [Q.few, Bool.and_eq_true, decide_eq_true_eq, List.all_eq_true] at h
  exact ⟨by omega, fun p hp => by have := h.2 p hp; omega⟩

set_option maxHeartbeats 1000000 in
theorem few_any (v : Value) (L : List Pt) (w : World) (h : Pl w v L) :
    Calls Try.prog 11 #[v] w fun e w' => e = .returned (.bool (Q.few L)) ∧ w' = w := by
  obtain ⟨a, cap, rfl, hl, hm, hna, ho⟩ := h.open
  clear h
  by_cases h70 : 70 < L.length
  · have HF := hide (show Q.few L = false by simp [Q.few]; omega)
    go_enter Try.func11, Try.ntmps11
    go_wp2
    go_ret
    exact ⟨by rw [unhide HF]; rfl, rfl⟩
  · go_enter Try.func11, Try.ntmps11
    go_wp2
    go_loop [3] (fun iv => ∃ k : Nat, k ≤ L.length ∧ iv = .int .i64 k ∧ ∀ i p, i < k → L[i]? = some p → p.a.length ≤ 130) (fun iv => L.length - (intOf iv).toNat)
    case atStart => exact ⟨0, Nat.zero_le _, rfl, fun i y hi _ => by omega⟩
    case round =>
      obtain ⟨k, hk, rfl, hall⟩ := hrel
      have HA := hide hall
      clear hall
      by_cases hlt : k < L.length
      · obtain ⟨b, off, rfl, hb, hc⟩ := ho (by omega)
        obtain ⟨p, hp⟩ : ∃ p, L[k]? = some p := ⟨L[k], List.getElem?_eq_getElem hlt⟩
        obtain ⟨da, dc, -, c1, -⟩ := hc k p hp
        have HP := hide hp
        obtain ⟨n, hn⟩ : ∃ n, p.a.length = n := ⟨_, rfl⟩
        rw [hn] at c1
        have HN := hide hn
        clear ho hc hp hn
        by_cases h1 : 130 < n
        · have HF := hide (show Q.few L = false by
            rw [← Bool.not_eq_true]
            intro h
            simp only [Q.few, Bool.and_eq_true, decide_eq_true_eq, List.all_eq_true] at h
            have := h.2 p (List.mem_of_getElem? (unhide HP))
            rw [unhide HN] at this
            omega)
          go_wp2
          go_ret
          exact ⟨by rw [unhide HF]; rfl, rfl⟩
        · go_wp2
          go_round
          case rel =>
            refine ⟨k + 1, by omega, by go_num, fun i y hi hy => ?_⟩
            by_cases e : i = k
            · subst e
              rw [unhide HP] at hy
              simp at hy
              subst hy
              rw [unhide HN]
              omega
            · exact unhide HA i y (by omega) hy
          case measure => simp [intOf]; omega
      · have HF := hide (show Q.few L = true by
          simp only [Q.few, Bool.and_eq_true, decide_eq_true_eq, List.all_eq_true]
          refine ⟨by omega, fun p hp => ?_⟩
          obtain ⟨i, hi⟩ := List.mem_iff_getElem?.1 hp
          exact unhide HA i p (by have := (List.getElem?_eq_some_iff.1 hi).1; omega) hi)
        go_wp2
        go_ret
        exact ⟨by rw [unhide HF]; rfl, rfl⟩
theorem few_b (v : Value) (L : List Pt) (w : World) (h : Pl w v L) (r : Bool) (hr : Q.few L = r) : Calls Try.prog 11 #[v] w fun e w' => e = .returned (.bool r) ∧ Below w.heap.size w w' := by
  subst hr
  exact (few_any v L w h).mono fun e w' ⟨h1, h2⟩ => ⟨h1, by rw [h2]; exact Below.refl _ _⟩
end Go.Proofs.Ytjkaidlgooemoaa
