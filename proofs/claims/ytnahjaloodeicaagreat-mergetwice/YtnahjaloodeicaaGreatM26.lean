/-
  Texts put together: Base11, May11, Cards11, Least11, Pass11, State11, Keep11, Off11.
-/
import Derived.Test.YtnahjaloodeicaaGreatM16
import Derived.Test.YtnahjaloodeicaaGreatM11
import Derived.Test.YtnahjaloodeicaaGreatM25
import Derived.Deep.RegionHeld3
import Derived.Test.YtnahjaloodeicaaGreatM14
import Derived.Test.YtnahjaloodeicaaGreatM15
import Derived.Test.YtnahjaloodeicaaGreatM24
/-
  Slices of segments ('Gs') and of lists of bools, as they read; documents ('encD') and walks ('encW') in rows of the call's own. No function of the program is named here.
-/
namespace Go.Proofs.YtnahjaloodeicaaGreat
set_option maxRecDepth 100000
open Go.RowKit

abbrev Qd := Pts × Pts × Pts × Pts
/-- The five cells of a segment, whose parts lie where the slices say. -/
def encG (p : G.Sq × Qd) : List Value := [sv p.2.1, sv p.2.2.1, sv p.2.2.2.1, sv p.2.2.2.2, .bool p.1.2]
theorem encG_len (p : G.Sq × Qd) : (encG p).length = 5 := rfl
theorem encG_one (p : G.Sq × Qd) : ∀ u ∈ encG p, u.oneCell' = true := by
  intro u hu
  simp only [encG, List.mem_cons, List.not_mem_nil, or_false] at hu
  rcases hu with rfl | rfl | rfl | rfl | rfl <;> rfl
theorem Tryz.infoG : (Tryz.prog.info? 30).map (fun i => (i.zero, i.size, i.bytes)) = some (some (.agg #[.slice none 0 0, .slice none 0 0, .slice none 0 0, .slice none 0 0, .bool false]), 5, 104) := by kernel_rfl

/-- The slice value v reads, in w, as the segments L. -/
def Gs (w : World) (v : Value) (L : List G.Sq) : Prop := ∃ ps : List (G.Sq × Qd), Kl encG 5 w v ps ∧ ps.map (·.1) = L ∧ ∀ p ∈ ps, Sv w (sv p.2.1) (sv p.2.2.1) (sv p.2.2.2.1) (sv p.2.2.2.2) p.1.1

theorem Gs.nil (w : World) : Gs w (.slice none 0 0) [] := ⟨[], Kl.nil _ _ _, rfl, fun p hp => by cases hp⟩
theorem Gs.below {w w' : World} {v : Value} {L : List G.Sq} (h : Gs w v L) (hb : Below w.heap.size w w') : Gs w' v L := by
  obtain ⟨ps, h1, h2, h3⟩ := h
  exact ⟨ps, h1.below hb, h2, fun p hp => (h3 p hp).below hb⟩

theorem Gs.open {w : World} {v : Value} {L : List G.Sq} (h : Gs w v L) :
    ∃ a cap, v = .slice a L.length cap ∧ L.length ≤ cap ∧ cap ≤ 9223372036854775807 ∧ (a = none → cap = 0) ∧
      (0 < L.length → ∃ b off, a = some ⟨b, off, none⟩ ∧ b < w.heap.size ∧ ∀ i s, L[i]? = some s → ∃ (ia ka lna ta : Option Addr) (ic kc lnc tc : Nat),
        w.cell? ⟨b, off + i * 5, none⟩ = some (.slice ia s.1.ids.length ic) ∧ w.cell? ⟨b, off + i * 5 + 1, none⟩ = some (.slice ka s.1.keys.length kc) ∧ w.cell? ⟨b, off + i * 5 + 2, none⟩ = some (.slice lna s.1.lens.length lnc) ∧
        w.cell? ⟨b, off + i * 5 + 3, none⟩ = some (.slice ta s.1.ts.length tc) ∧ w.cell? ⟨b, off + i * 5 + 4, none⟩ = some (.bool s.2) ∧
        Sv w (.slice ia s.1.ids.length ic) (.slice ka s.1.keys.length kc) (.slice lna s.1.lens.length lnc) (.slice ta s.1.ts.length tc) s.1) := by
  obtain ⟨ps, h1, rfl, h3⟩ := h
  obtain ⟨a, cap, rfl, hl, hm, hn, ho⟩ := h1.open encG_len (by decide)
  rw [List.length_map]
  refine ⟨a, cap, rfl, hl, hm, hn, fun hp => ?_⟩
  obtain ⟨b, off, rfl, hb, hc⟩ := ho hp
  refine ⟨b, off, rfl, hb, fun i s hi => ?_⟩
  rw [List.getElem?_map] at hi
  obtain ⟨p, hp', rfl⟩ := Option.map_eq_some_iff.1 hi
  have g := h3 p (List.mem_of_getElem? hp')
  obtain ⟨ia, ka, lna, ta, ic, kc, lnc, tc, e0, e1, e2, e3⟩ := g.shape
  have c0 := hc i p hp' 0 _ rfl
  have c1 := hc i p hp' 1 _ rfl
  have c2 := hc i p hp' 2 _ rfl
  have c3 := hc i p hp' 3 _ rfl
  have c4 := hc i p hp' 4 _ rfl
  rw [e0] at c0 g
  rw [e1] at c1 g
  rw [e2] at c2 g
  rw [e3] at c3 g
  exact ⟨ia, ka, lna, ta, ic, kc, lnc, tc, c0, c1, c2, c3, c4, g⟩

/-! ### Documents and walks -/

def encD (x : Dc) : List Value := [.int .i64 x.d, .string x.id, .int .i64 x.key, .slice none 0 0]
theorem encD_len (x : Dc) : (encD x).length = 4 := rfl
theorem encD_one (x : Dc) : ∀ u ∈ encD x, u.oneCell' = true := by
  intro u hu
  simp only [encD, List.mem_cons, List.not_mem_nil, or_false] at hu
  rcases hu with rfl | rfl | rfl | rfl <;> rfl
theorem Tryz.infoD : (Tryz.prog.info? 94).map (fun i => (i.zero, i.size, i.bytes)) = some (some (.agg #[.int .i64 0, .string ⟨#[]⟩, .int .i64 0, .slice none 0 0]), 4, 56) := by kernel_rfl

/-- A walk: where its documents lie, what they are; its table's block, and what it has. -/
structure Wk where
  la : Option Addr
  lc : Nat
  left : List Dc
  tb : Nat
  tab : List Int
def encW (x : Wk) : List Value := [.slice x.la x.left.length x.lc, .slice (some ⟨x.tb, 0, none⟩) x.tab.length x.tab.length]
theorem encW_len (x : Wk) : (encW x).length = 2 := rfl
theorem encW_one (x : Wk) : ∀ u ∈ encW x, u.oneCell' = true := by
  intro u hu
  simp only [encW, List.mem_cons, List.not_mem_nil, or_false] at hu
  rcases hu with rfl | rfl <;> rfl
theorem Tryz.infoW : (Tryz.prog.info? 89).map (fun i => (i.zero, i.size, i.bytes)) = some (some (.agg #[.slice none 0 0, .slice none 0 0]), 2, 48) := by kernel_rfl
theorem Tryz.infoI : (Tryz.prog.info? 27).map (fun i => (i.zero, i.size, i.bytes)) = some (some (.slice none 0 0), 1, 24) := by kernel_rfl

/-- An operation of a region that draws is taken first, its slot and value written out. -/
theorem takeH11 {P : Program} {md : Region.Mode} {ops : Array Oper} {Q : Exit → Act → World → Prop} {S : World → Prop} {i : Nat} {oi : Oper} {d : Option Tmp} {v : Value} {fuel : Nat} {listed : Array Bool} {a : Act} {w : World} (hi : ops[i]? = some oi) (hd : oi.dst = d)
    (hs : Region.noSelect ops = true) (hf : Region.free md ops listed i = true) (hr : (Region.ready md ops listed).contains i = true)
    (hQ : ∀ c a w, Q (.panic c) (a.put d v) w → Q (.panic c) a w) (hy : YieldsIf P ops S oi v a) (hS : S w)
    (h : wpAnyH P md ops Q S fuel (listed.setIfInBounds i true) (a.put d v) w) : wpAnyH P md ops Q S (fuel + 1) listed a w := by
  subst hd
  exact wpAnyH_take hi hs hf hr hQ hy hS h
end Go.Proofs.YtnahjaloodeicaaGreat

/-
  The contracts of merge's may, of the closure that it makes, and of slices.EqualFunc at them.
-/
namespace Go.Proofs.YtnahjaloodeicaaGreat
set_option maxRecDepth 100000
open Go.RowKit

def OneEnd (w : World) (s : Sg) (so : Bool) (n : Nat) (e : Ending) (w' : World) : Prop := ∃ r : Bool, e = .returned (.bool r) ∧ (r = true ↔ MayP s so ∧ n = s.ids.length) ∧ Below w.heap.size w w'
theorem one_end {w w' : World} {s : Sg} {so : Bool} {n : Nat} {r : Bool} (hn : n = s.ids.length) (hr : r = true ↔ MayP s so) (hb : Below w.heap.size w w') : OneEnd w s so n (.returned (.bool r)) w' := ⟨r, rfl, hr.trans ⟨fun h => ⟨h, hn⟩, fun h => h.1⟩, hb⟩
theorem one_no {w w' : World} {s : Sg} {so : Bool} {n : Nat} (hn : ¬ n = s.ids.length) (hb : Below w.heap.size w w') : OneEnd w s so n (.returned (.bool false)) w' := ⟨false, rfl, ⟨fun h => by (cases h), fun h => absurd h.2 hn⟩, hb⟩

set_option maxHeartbeats 1000000 in
theorem cloM_any (ia ka lna ta xa : Option Addr) (ic kc lnc tc n xc : Nat) (s : Sg) (so : Bool) (w : World) (h : Sv w (.slice ia s.ids.length ic) (.slice ka s.keys.length kc) (.slice lna s.lens.length lnc) (.slice ta s.ts.length tc) s) (hsz : ∀ x ∈ s.ids, x.size ≤ maxLen) (htl : s.ts.length ≤ 3518437208780) :
    Calls Tryz.prog 47 #[.agg #[.slice ia s.ids.length ic, .slice ka s.keys.length kc, .slice lna s.lens.length lnc, .slice ta s.ts.length tc, .bool so], .slice xa n xc] w (OneEnd w s so n) := by
  obtain ⟨W, hW⟩ : ∃ W, W = w.alloc (.cells #[.slice ia s.ids.length ic, .slice ka s.keys.length kc, .slice lna s.lens.length lnc, .slice ta s.ts.length tc, .bool so] 30) := ⟨_, rfl⟩
  have BW : Below w.heap.size w W := by rw [hW]; exact below_alloc _ _
  have X0 : W.heap[w.heap.size]? = some (.cells #[.slice ia s.ids.length ic, .slice ka s.keys.length kc, .slice lna s.lens.length lnc, .slice ta s.ts.length tc, .bool so] 30 (0, 0)) := by rw [hW]; exact heap_alloc_new w _
  have HV := h.below BW
  have HW := hide hW
  clear hW
  have C := segMay_all ia ka lna ta ic kc lnc tc s so W HV hsz htl
  have x0 := box_cell X0 (j := 0) rfl
  have x1 := box_cell X0 (j := 1) rfl
  have x2 := box_cell X0 (j := 2) rfl
  have x3 := box_cell X0 (j := 3) rfl
  have x4 := box_cell X0 (j := 4) rfl
  clear h HV X0 hsz
  by_cases hn : s.ids.length = n
  · have hb : ((s.ids.length : Int) == (n : Int)) = true := by simp [hn]
    have HN := hide hn
    clear hn x0 x1 x2 x3 x4
    go_enter Tryz.func47, Tryz.ntmps47
    go_wp2_with fail
    rw [← unhide HW]
    refine C.mono ?_
    rintro e w1 ⟨r, rfl, hr, B1⟩
    have BB := below_trans' BW B1
    have HR := hide hr
    clear hr B1
    go_wp2
    go_ret
    exact one_end (unhide HN).symm (unhide HR) BB
  · have hb : ((s.ids.length : Int) == (n : Int)) = false := by rw [beq_eq_false_iff_ne]; omega
    have HN := hide hn
    clear hn C
    go_enter Tryz.func47, Tryz.ntmps47
    go_wp2
    go_ret
    rw [← unhide HW]
    exact one_no (fun e => unhide HN e.symm) BW

def RightEnd (w : World) (l : List G.Sq) (ls : List (List Bool)) (e : Ending) (w' : World) : Prop := ∃ r : Bool, e = .returned (.bool r) ∧ (r = true ↔ G.Right l ls) ∧ Below w.heap.size w w'
theorem right_no {w w' : World} {l : List G.Sq} {ls : List (List Bool)} (h : ¬ G.Right l ls) (hb : Below w.heap.size w w') : RightEnd w l ls (.returned (.bool false)) w' := ⟨false, rfl, ⟨fun h => by (cases h), fun h9 => absurd h9 h⟩, hb⟩
theorem right_yes {w w' : World} {l : List G.Sq} {ls : List (List Bool)} (h : G.Right l ls) (hb : Below w.heap.size w w') : RightEnd w l ls (.returned (.bool true)) w' := ⟨true, rfl, ⟨fun _ => h, fun _ => rfl⟩, hb⟩
/-- Those that were looked at may be. -/
def Rt (l : List G.Sq) (ls : List (List Bool)) (k : Nat) : Prop := ∀ (i : Nat) (s : G.Sq) (a : List Bool), i < k → l[i]? = some s → ls[i]? = some a → MayP s.1 s.2 ∧ a.length = s.1.ids.length
theorem Rt.step {l : List G.Sq} {ls : List (List Bool)} {k : Nat} {s : G.Sq} {a : List Bool} (h : Rt l ls k) (h1 : l[k]? = some s) (h2 : ls[k]? = some a) (hm : MayP s.1 s.2 ∧ a.length = s.1.ids.length) : Rt l ls (k + 1) := fun i s' a' hi g1 g2 => by
  by_cases e : i = k
  · subst e
    rw [h1] at g1
    rw [h2] at g2
    cases g1
    cases g2
    exact hm
  · exact h i s' a' (by omega) g1 g2
def Big (l : List G.Sq) : Prop := ∀ s ∈ l, (∀ x ∈ s.1.ids, x.size ≤ maxLen) ∧ s.1.ts.length ≤ 3518437208780

set_option maxHeartbeats 2000000 in
theorem equalM_any (v u : Value) (l : List G.Sq) (ls : List (List Bool)) (w : World) (hl : Gs w v l) (hb : Bll w u ls) (hbig : Big l) :
    Calls Tryz.prog 46 #[v, u, .func (.func 47) #[] #[]] w (RightEnd w l ls) := by
  have HG := hl
  have HB := hb
  obtain ⟨a, cap, rfl, h1, h2, hna, -⟩ := hl.open
  obtain ⟨a2, cap2, rfl, h3, h4, -⟩ := hb.at
  clear hl hb
  by_cases he : l.length = ls.length
  · have hne : ((l.length : Int) != (ls.length : Int)) = false := by simp [he]
    have HE := hide he
    have HBG := hide hbig
    clear he hbig
    go_enter Tryz.func46, Tryz.ntmps46
    go_wp2
    go_loopw [17] (fun iv wr => ∃ k : Nat, k ≤ l.length ∧ iv = .int .i64 k ∧ Hid (Rt l ls k) ∧ Below w.heap.size w wr) (fun iv _ => l.length - (intOf iv).toNat)
    case atStart => exact ⟨0, Nat.zero_le _, rfl, hide (fun i s t hi => by omega), Below.refl _ _⟩
    case round =>
      obtain ⟨k, hk, rfl, HS, hbel⟩ := hrel
      by_cases hlt : k < l.length
      · have hlt2 : k < ls.length := by have := unhide HE; omega
        obtain ⟨a', c', hv', -, -, -, ho⟩ := (HG.below hbel).open
        simp only [Value.slice.injEq, true_and] at hv'
        obtain ⟨rfl, rfl⟩ := hv'
        obtain ⟨b, off, rfl, hb, hc⟩ := ho (by omega)
        obtain ⟨a', c', hv', -, -, ho2⟩ := (HB.below hbel).at
        simp only [Value.slice.injEq, true_and] at hv'
        obtain ⟨rfl, rfl⟩ := hv'
        obtain ⟨b2, off2, rfl, hb2, hc2⟩ := ho2 (by omega)
        obtain ⟨s, hx⟩ : ∃ x, l[k]? = some x := ⟨_, List.getElem?_eq_getElem hlt⟩
        obtain ⟨t, hy⟩ : ∃ x, ls[k]? = some x := ⟨_, List.getElem?_eq_getElem hlt2⟩
        obtain ⟨ia, ka, lna, ta, ic, kc, lnc, tc, c0, c1, c2, c3, c4, hS⟩ := hc k s hx
        obtain ⟨xt, ct, d0, -⟩ := hc2 k t hy
        obtain ⟨W, hW⟩ : ∃ W, W = wr.alloc (.cells #[.slice ia s.1.ids.length ic, .slice ka s.1.keys.length kc, .slice lna s.1.lens.length lnc, .slice ta s.1.ts.length tc, .bool s.2] 30) := ⟨_, rfl⟩
        have BW : Below wr.heap.size wr W := by rw [hW]; exact below_alloc _ _
        have CC := cloM_any ia ka lna ta xt ic kc lnc tc t.length ct s.1 s.2 W (hS.below BW) ((unhide HBG) s (List.mem_of_getElem? hx)).1 ((unhide HBG) s (List.mem_of_getElem? hx)).2
        have HX := hide hx
        have HY := hide hy
        have HW := hide hW
        have q1 : b ≠ wr.heap.size := by omega
        have q2 : b2 ≠ wr.heap.size := by omega
        clear hc hc2 ho ho2 hx hy hS hW
        go_wp2_with fail
        rw [← unhide HW]
        refine CC.mono ?_
        rintro e w1 ⟨r, rfl, hr, B1⟩
        have BB := below_trans' hbel (below_trans' BW B1)
        clear CC B1 c0 c1 c2 c3 c4 d0 BW
        cases r with
        | true =>
          have HM := hide (hr.1 rfl)
          clear hr
          go_wp2
          go_roundw
          case rel => exact ⟨k + 1, by omega, by go_num, hide (Rt.step (unhide HS) (unhide HX) (unhide HY) (unhide HM)), BB⟩
          case measure => simp [intOf]; omega
        | false =>
          have HM : Hid (¬ G.Right l ls) := fun h9 => by have := hr.2 (h9.2 k s t (unhide HX) (unhide HY)); cases this
          clear hr
          go_wp2
          go_ret
          exact right_no (unhide HM) BB
      · have HR : Hid (G.Right l ls) := ⟨unhide HE, fun i t a h1 h2 => unhide HS i t a (by have := (List.getElem?_eq_some_iff.1 h1).1; omega) h1 h2⟩
        go_wp2
        go_ret
        exact right_yes (unhide HR) hbel
  · have hne : ((l.length : Int) != (ls.length : Int)) = true := by simp; omega
    have HR : Hid (¬ G.Right l ls) := fun h9 => he h9.1
    clear he hbig HG HB
    go_enter Tryz.func46, Tryz.ntmps46
    go_wp2
    go_ret
    exact right_no (unhide HR) (Below.refl _ _)

set_option maxHeartbeats 1000000 in
theorem mayM_any (v u : Value) (l : List G.Sq) (ls : List (List Bool)) (w : World) (hl : Gs w v l) (hb : Bll w u ls) (hbig : Big l) :
    Calls Tryz.prog 24 #[v, u] w (RightEnd w l ls) := by
  have CC := equalM_any v u l ls w hl hb hbig
  obtain ⟨a, cap, rfl, -⟩ := hl.open
  obtain ⟨a2, cap2, rfl, -⟩ := hb.at
  clear hl hb hbig
  go_enter Tryz.func24, Tryz.ntmps24
  go_wp2_with fail
  refine CC.mono ?_
  rintro e w1 ⟨r, rfl, hr, B1⟩
  have HR := hide hr
  clear CC hr
  go_wp2
  go_ret
  exact ⟨r, rfl, unhide HR, B1⟩
end Go.Proofs.YtnahjaloodeicaaGreat

/-
  The contracts of seg's Cards, its rows the call's own, and of merge's cards and Left.
-/
namespace Go.Proofs.YtnahjaloodeicaaGreat
set_option maxRecDepth 100000
open Go.RowKit

set_option maxRecDepth 100000 in
set_option maxHeartbeats 4000000 in
theorem cards11_any (ia ka lna ta : Option Addr) (ic kc lnc tc : Nat) (s : Sg) (so : Bool) (l : List Cd) (w : World) (h : Sv w (.slice ia s.ids.length ic) (.slice ka s.keys.length kc) (.slice lna s.lens.length lnc) (.slice ta s.ts.length tc) s) (hV : Valid s l so) :
    Calls Tryz.prog 48 #[.agg #[.slice ia s.ids.length ic, .slice ka s.keys.length kc, .slice lna s.lens.length lnc, .slice ta s.ts.length tc, .bool so]] w fun e w' => ∃ (v' : Value) (ps : List (Cd × Pts)), e = .returned v' ∧ w'.ownsRow w.heap.size 40 3 v' ps.length (ps.flatMap encC) ∧ ps.map (·.1) = l ∧ CW w.heap.size w' ps ∧ Below w.heap.size w w' := by
  obtain ⟨i0, hi, hz0, hz1, hz2⟩ := info_parts Tryz.infoC
  obtain ⟨W, hW⟩ : ∃ W, W = w.alloc (.cells #[.slice ia s.ids.length ic, .slice ka s.keys.length kc, .slice lna s.lens.length lnc, .slice ta s.ts.length tc, .bool so] 30) := ⟨_, rfl⟩
  have BW : Below w.heap.size w W := by rw [hW]; exact below_alloc _ _
  have X0 : W.heap[w.heap.size]? = some (.cells #[.slice ia s.ids.length ic, .slice ka s.keys.length kc, .slice lna s.lens.length lnc, .slice ta s.ts.length tc, .bool so] 30 (0, 0)) := by rw [hW]; exact heap_alloc_new w _
  have HV := h.below BW
  have HW := hide hW
  clear hW
  have C := look_any ia ka lna ta ic kc lnc tc s so l W HV hV
  have HVA := hide hV
  have N1 := hide hV.lens.1
  have h64 := hV.2.len
  have hn64 : s.ids.length ≤ 64 := by have := unhide N1; omega
  clear hV h
  go_enter Tryz.func48, Tryz.ntmps48
  go_wp2_with fail
  rw [← unhide HW]
  refine C.mono ?_
  rintro e w1 ⟨b, M, rfl, M1, T1, B1⟩
  have BB := below_trans' BW B1
  have X1 := box_below X0 B1
  have HV1 := HV.below B1
  have HT1 := hide T1
  have hz1' : w.heap.size < w1.heap.size := (Array.getElem?_eq_some_iff.1 X1).1
  have x0 := box_cell X1 (j := 0) rfl
  have x1 := box_cell X1 (j := 1) rfl
  have x2 := box_cell X1 (j := 2) rfl
  have x3 := box_cell X1 (j := 3) rfl
  have x4 := box_cell X1 (j := 4) rfl
  clear C HV X0 B1 T1
  go_wp2
  go_loopw [5, 17] (fun ov iv wr => ∃ (k : Nat) (ps : List (Cd × Pts)), k ≤ s.ids.length ∧ iv = .int .i64 k ∧ Hid (ps.map (·.1) = l.take k) ∧ ps.length ≤ k ∧ wr.ownsRow w1.heap.size 40 3 ov ps.length (ps.flatMap encC) ∧ CW w1.heap.size wr ps ∧ Below w1.heap.size w1 wr) (fun _ iv _ => s.ids.length - (intOf iv).toNat)
  case atStart => exact ⟨0, [], Nat.zero_le _, rfl, rfl, Nat.zero_le _, World.ownsRow_nil _ _ _ _, (fun p hp => by cases hp), Below.refl _ _⟩
  case round =>
    clear x0 x1 x2 x3 x4
    obtain ⟨k, ps, hk, rfl, HP, hpl, hown, hcw, hbel⟩ := hrel
    by_cases hlt : k < s.ids.length
    · obtain ⟨c, hx⟩ : ∃ c, l[k]? = some c := ⟨l[k]'(by have := unhide N1; omega), List.getElem?_eq_getElem _⟩
      have XR := box_below X1 hbel
      have CR := sread_any ia ka lna ta ic kc lnc tc s so l b _ M k c wr (HV1.below hbel) (unhide HVA) (map_keep M1 (hbel.block _ M1.lt)) (unhide HT1) hx
      have HTS := hide (take_snoc8 hx)
      have hbs := hbel.size
      have x0 := box_cell XR (j := 0) rfl
      have x1 := box_cell XR (j := 1) rfl
      have x2 := box_cell XR (j := 2) rfl
      have x3 := box_cell XR (j := 3) rfl
      have x4 := box_cell XR (j := 4) rfl
      clear XR hx
      go_wp2_with fail
      refine CR.mono ?_
      rintro e w2 ⟨vw, rfl, O2, B2⟩
      obtain ⟨va, vc, hvw, -⟩ := id (Gl.owned O2)
      subst hvw
      have OC := own_below hown B2
      have CW2 : CW w1.heap.size w2 ps := fun p hp => own_below (hcw p hp) B2
      have BB2 := hbel.trans (B2.mono hbs)
      have hbs2 := B2.size
      clear CR hown hcw hbel B2 x0 x1 x2 x3 x4
      go_wp2_with (at_builtin; refine append_oneF rfl _ _ 35 rfl Tryz.underlying35 hi hz0 hz1 hz2 rfl (by decide) encC_len encC_one (pre := ps) (c, (va, c.w.length, vc)) rfl rfl rfl (by simp) OC (by omega) (by omega) (by decide) ?_; intro g5 q5 w5 O5 g5' l5)
      have B5 := BB2.grown g5' (by omega) (fun j hj => (OC.lt j hj).1)
      have CW5 : CW w1.heap.size w5 (ps ++ [(c, (va, c.w.length, vc))]) := fun p hp => by
        rcases List.mem_append.1 hp with hp | hp
        · exact World.ownsRow.kept (CW2 p hp) g5' (own_apart (CW2 p hp) OC (by decide))
        · simp only [List.mem_singleton] at hp
          subst hp
          exact World.ownsRow.kept (own_mono O2 hbs) g5' (own_apart (own_mono O2 hbs) OC (by decide))
      have HCW := hide CW5
      clear g5' l5 OC CW2 CW5 O2
      go_roundw
      case rel => exact ⟨k + 1, ps ++ [(c, (va, c.w.length, vc))], by omega, by go_num, by (show _ = _; rw [unhide HTS, List.map_append, unhide HP]; rfl), by simp; omega, O5, unhide HCW, B5⟩
      case measure => simp [intOf]; omega
    · have hps : ps.map (·.1) = l := by rw [unhide HP, List.take_of_length_le (by have := unhide N1; omega)]
      have HPS := hide hps
      have HO := hide (own_mono hown BB.size)
      have HCW : Hid (CW w.heap.size wr ps) := fun p hp => own_mono (hcw p hp) BB.size
      clear HP hps hown hcw
      go_wp2
      go_ret
      exact ⟨_, _, rfl, unhide HO, unhide HPS, unhide HCW, below_trans' BB hbel⟩

theorem CW.below {B : Nat} {w w' : World} {ps : List (Cd × Pts)} (h : CW B w ps) (hb : Below w.heap.size w w') : CW B w' ps := fun p hp => own_below (h p hp) hb
theorem CW.mono {B B' : Nat} {w : World} {ps : List (Cd × Pts)} (h : CW B w ps) (hB : B' ≤ B) : CW B' w ps := fun p hp => own_mono (h p hp) hB
/-- Words stay behind an append onto cards. -/
theorem CW.kept {B B' n : Nat} {w w' : World} {ps : List (Cd × Pts)} {v : Value} {xs : List Value} (h : CW B w ps) (o : w.ownsRow B' 40 3 v n xs) (g : w.grownBy w' v.ownBlock) : CW B w' ps := fun p hp => World.ownsRow.kept (h p hp) g (own_apart (h p hp) o (by decide))
theorem CW.snoc {B : Nat} {w : World} {ps : List (Cd × Pts)} {p : Cd × Pts} (h : CW B w ps) (hp : w.ownsRow B 9 1 (sv p.2) p.1.w.length (p.1.w.map Value.string)) : CW B w (ps ++ [p]) := fun q hq => by
  rcases List.mem_append.1 hq with hq | hq
  · exact h q hq
  · simp only [List.mem_singleton] at hq
    subst hq
    exact hp
theorem Far.step' {w : World} {v v' x : Value} {B : Nat} {e : TypeId} {K n : Nat} {xs : List Value} (h : Far v x) (o : w.ownsRow B e K x n xs) (hs : ∀ k, v'.ownBlock = some k → v.ownBlock = some k ∨ w.heap.size ≤ k) : Far v' x := by
  intro k hk e
  rcases hs k hk with h1 | h1
  · exact h k h1 e
  · have := (o.lt k e).2; omega
theorem own_k {B : Nat} {w : World} {ps : List (Cd × Pts)} {v : Value} (h : w.ownsRow B 40 3 v ps.length (ps.flatMap encC)) {a : Option Addr} {n c : Nat} (e : v = .slice a n c) : n = ps.length := by
  obtain ⟨a', cap, hv, -⟩ := Kl.owned (k := 3) encC_len (by decide) h
  rw [e] at hv
  simp only [Value.slice.injEq] at hv
  exact hv.2.1

namespace G
theorem alive_snoc {α : Type} : ∀ {l : List α} {a : List Bool} {k : Nat} {c : α} {b : Bool}, l[k]? = some c → a[k]? = some b → alive (l.take (k + 1)) (a.take (k + 1)) = alive (l.take k) (a.take k) ++ if b = true then [c] else []
  | [], _, _, _, _, h, _ => by simp at h
  | _ :: _, [], _, _, _, _, h => by simp at h
  | x :: l, y :: a, 0, c, b, h1, h2 => by
    simp at h1 h2
    subst h1 h2
    simp [alive]
  | x :: l, y :: a, k + 1, c, b, h1, h2 => by
    have ih := alive_snoc (l := l) (a := a) (k := k) (c := c) (b := b) (by simpa using h1) (by simpa using h2)
    rw [List.take_succ_cons, List.take_succ_cons, List.take_succ_cons, List.take_succ_cons]
    simp only [alive, ih]
    split <;> simp
theorem alive_pre {α : Type} (l : List α) (a : List Bool) (k : Nat) : (alive (l.take k) (a.take k)).length ≤ (alive l a).length := by
  induction l generalizing a k with
  | nil => simp [alive]
  | cons x l ih =>
    cases a with
    | nil => simp [alive]
    | cons y a =>
      cases k with
      | zero => simp [alive]
      | succ k =>
        have := ih a k
        simp only [List.take_succ_cons, alive]
        split <;> simp <;> omega
theorem left_snoc : ∀ {l : List Sq} {ls : List (List Bool)} {i : Nat} {s : Sq} {a : List Bool}, l[i]? = some s → ls[i]? = some a → left (l.take (i + 1)) (ls.take (i + 1)) = left (l.take i) (ls.take i) ++ alive (S.crd s.1) a
  | [], _, _, _, _, h, _ => by simp at h
  | _ :: _, [], _, _, _, _, h => by simp at h
  | x :: l, y :: ls, 0, s, a, h1, h2 => by
    simp at h1 h2
    subst h1 h2
    simp [left]
  | x :: l, y :: ls, i + 1, s, a, h1, h2 => by
    have ih := left_snoc (l := l) (ls := ls) (i := i) (s := s) (a := a) (by simpa using h1) (by simpa using h2)
    rw [List.take_succ_cons, List.take_succ_cons, List.take_succ_cons, List.take_succ_cons]
    simp only [left, ih, List.append_assoc]
theorem left_pre {l : List Sq} {ls : List (List Bool)} (h : l.length = ls.length) (k : Nat) : (left (l.take k) (ls.take k)).length ≤ (left l ls).length := by
  have := left_split (l := l) (ls := ls) k h
  rw [this, List.length_append]
  omega
end G

set_option maxRecDepth 100000 in
set_option maxHeartbeats 8000000 in
theorem cardsM_any (v u : Value) (l : List G.Sq) (ls : List (List Bool)) (w : World) (hl : Gs w v l) (hb : Bll w u ls) (hR : G.Right l ls) (hbig : (G.left l ls).length ≤ 4294967295) :
    Calls Tryz.prog 25 #[v, u] w fun e w' => ∃ v', e = .returned v' ∧ Cs w' v' (G.left l ls) ∧ Below w.heap.size w w' := by
  obtain ⟨i0, hi, hz0, hz1, hz2⟩ := info_parts Tryz.infoC
  have HG := hl
  have HB := hb
  obtain ⟨a, cap, rfl, h1, h2, hna, -⟩ := hl.open
  obtain ⟨a2, cap2, rfl, h3, h4, -⟩ := hb.at
  have HE := hide hR.1
  have HRT := hide hR.2
  have HBG := hide hbig
  clear hl hb hR hbig
  go_enter Tryz.func25, Tryz.ntmps25
  go_wp2
  go_loopw [5, 12] (fun ov iv wr => ∃ (k : Nat) (ps : List (Cd × Pts)), k ≤ l.length ∧ iv = .int .i64 k ∧ Hid (ps.map (·.1) = G.left (l.take k) (ls.take k)) ∧ wr.ownsRow w.heap.size 40 3 ov ps.length (ps.flatMap encC) ∧ CW w.heap.size wr ps ∧ Below w.heap.size w wr) (fun _ iv _ => l.length - (intOf iv).toNat)
  case atStart => exact ⟨0, [], Nat.zero_le _, rfl, hide (by simp [G.left]), World.ownsRow_nil _ _ _ _, (fun p hp => by cases hp), Below.refl _ _⟩
  case round =>
    obtain ⟨k, ps, hk, rfl, HP, hown, hcw, hbel⟩ := hrel
    by_cases hlt : k < l.length
    · have hlt2 : k < ls.length := by have := unhide HE; omega
      obtain ⟨a', c', hv', -, -, -, ho⟩ := (HG.below hbel).open
      simp only [Value.slice.injEq, true_and] at hv'
      obtain ⟨rfl, rfl⟩ := hv'
      obtain ⟨b, off, rfl, hb, hc⟩ := ho (by omega)
      obtain ⟨s, hx⟩ : ∃ x, l[k]? = some x := ⟨_, List.getElem?_eq_getElem hlt⟩
      obtain ⟨t, hy⟩ : ∃ x, ls[k]? = some x := ⟨_, List.getElem?_eq_getElem hlt2⟩
      obtain ⟨ia, ka, lna, ta, ic, kc, lnc, tc, c0, c1, c2, c3, c4, hS⟩ := hc k s hx
      obtain ⟨W, hW⟩ : ∃ W, W = wr.alloc (.cells #[.slice ia s.1.ids.length ic, .slice ka s.1.keys.length kc, .slice lna s.1.lens.length lnc, .slice ta s.1.ts.length tc, .bool s.2] 30) := ⟨_, rfl⟩
      have BW : Below wr.heap.size wr W := by rw [hW]; exact below_alloc _ _
      have hM := (unhide HRT) k s t hx hy
      have CC := cards11_any ia ka lna ta ic kc lnc tc s.1 s.2 (S.crd s.1) W (hS.below BW) (may_valid hM.1)
      have HTL : Hid (t.length = (S.crd s.1).length) := by show _ = _; rw [S.crd_len]; exact hM.2
      have HX := hide hx
      have HY := hide hy
      have HW := hide hW
      have q1 : b ≠ wr.heap.size := by omega
      have h64 := hM.1.heads.n64
      clear hc ho hx hy hS hW hM
      go_wp2_with fail
      rw [← unhide HW]
      refine CC.mono ?_
      rintro e w1 ⟨xv, pc, rfl, O1, HPC, CW1, B1⟩
      have B2 := below_trans' BW B1
      have BB := below_trans' hbel B2
      have OP := own_below hown B2
      have CP := hcw.below B2
      have hfar : Far u5 xv := Far.new hown O1 BW.size
      have HBB := hide (HB.below BB)
      have hxs := own_mono O1 (show w.heap.size ≤ W.heap.size by have := hbel.size; have := BW.size; omega)
      have CW1' := CW1.mono (show w.heap.size ≤ W.heap.size by have := hbel.size; have := BW.size; omega)
      have HPC := hide HPC
      have HNP : Hid (pc.length = (S.crd s.1).length) := by show _ = _; rw [← unhide HPC, List.length_map]
      have hp64 : pc.length ≤ 64 := by have := unhide HNP; rw [S.crd_len] at this; omega
      clear h64
      obtain ⟨xa, xc, hxv, -⟩ := id (Kl.owned (k := 3) encC_len (by decide) O1)
      subst hxv
      have HBS := hide BB.size
      clear CC B1 c0 c1 c2 c3 c4 BW O1 CW1 hown hcw B2
      rename World => w0
      go_wp2
      go_loopw [5, 20] (fun ov iv wr => ∃ (j : Nat) (qs : List (Cd × Pts)), j ≤ pc.length ∧ iv = .int .i64 j ∧ Hid (qs.map (·.1) = G.left (l.take k) (ls.take k) ++ G.alive ((S.crd s.1).take j) (t.take j)) ∧ wr.ownsRow w.heap.size 40 3 ov qs.length (qs.flatMap encC) ∧ CW w.heap.size wr qs ∧
          wr.ownsRow w.heap.size 40 3 (.slice xa pc.length xc) pc.length (pc.flatMap encC) ∧ CW w.heap.size wr pc ∧ Far ov (.slice xa pc.length xc) ∧ Below w.heap.size w wr) (fun _ iv _ => pc.length - (intOf iv).toNat)
      case atStart => exact ⟨0, ps, Nat.zero_le _, rfl, hide (by simpa [G.alive] using unhide HP), OP, CP, hxs, CW1', hfar, BB⟩
      case round =>
        clear OP CP hxs CW1' hfar BB HBB
        obtain ⟨j, qs, hj, rfl, HQ, hown, hcw, hpo, hpw, hfar, hbel⟩ := hrel
        by_cases hjt : j < pc.length
        · obtain ⟨p, hp⟩ : ∃ p, pc[j]? = some p := ⟨_, List.getElem?_eq_getElem hjt⟩
          have hcd : (S.crd s.1)[j]? = some p.1 := by rw [← unhide HPC, List.getElem?_map, hp]; rfl
          obtain ⟨r, hr⟩ : ∃ r, t[j]? = some r := ⟨_, List.getElem?_eq_getElem (by have := unhide HTL; have := unhide HNP; omega)⟩
          obtain ⟨a', c', hv', -, -, -, ho⟩ := (Kl.owned (k := 3) encC_len (by decide) hpo).open encC_len (by decide)
          simp only [Value.slice.injEq, true_and] at hv'
          obtain ⟨rfl, rfl⟩ := hv'
          obtain ⟨xb, xo, rfl, hxb, hxc⟩ := ho (by omega)
          have c0 : wr.cell? ⟨xb, xo + j * 3, none⟩ = some (.string p.1.id) := hxc j p hp 0 _ rfl
          have c1 : wr.cell? ⟨xb, xo + j * 3 + 1, none⟩ = some (.int .i64 p.1.key) := hxc j p hp 1 _ rfl
          have c2 : wr.cell? ⟨xb, xo + j * 3 + 2, none⟩ = some (.slice p.2.1 p.2.2.1 p.2.2.2) := hxc j p hp 2 _ rfl
          obtain ⟨a', c', hv', -, -, ho2⟩ := (HB.below hbel).at
          simp only [Value.slice.injEq, true_and] at hv'
          obtain ⟨rfl, rfl⟩ := hv'
          obtain ⟨b2, off2, rfl, hb2, hc2⟩ := ho2 (by omega)
          obtain ⟨ya, yc, d0, hgl⟩ := hc2 k t (unhide HY)
          obtain ⟨a', c', hv', -, -, -, ho3⟩ := hgl.open
          simp only [Value.slice.injEq, true_and] at hv'
          obtain ⟨rfl, rfl⟩ := hv'
          obtain ⟨b3, off3, rfl, hb3, hc3⟩ := ho3 (by have := (List.getElem?_eq_some_iff.1 hr).1; omega)
          have d1 := hc3 j r hr
          have hjt2 := (List.getElem?_eq_some_iff.1 hr).1
          have HSN := hide (G.alive_snoc hcd hr)
          have HJT := hide hjt
          have q2 : xb ≠ wr.heap.size := by omega
          have q3 : b2 ≠ wr.heap.size := by omega
          have q4 : b3 ≠ wr.heap.size := by omega
          have HLN : Hid (qs.length < 4294967296) := by
            show _ < _
            have e1 := congrArg List.length (unhide HQ)
            rw [List.length_map, List.length_append] at e1
            have e2 := G.left_pre (unhide HE) (k + 1)
            rw [G.left_snoc (unhide HX) (unhide HY), List.length_append] at e2
            have e3 := G.alive_pre (S.crd s.1) t j
            have := unhide HBG
            omega
          have HPO := hide hpo
          have hpm := List.mem_of_getElem? hp
          have b6 := below_alloc wr (.cells #[.string p.1.id, .int .i64 p.1.key, sv p.2] 40)
          have OC := own_below hown b6
          have CC := hcw.below b6
          have PC := own_below hpo b6
          have PW := hpw.below b6
          have BC := below_trans' hbel b6
          have hbs := hbel.size
          clear hc2 ho2 hgl ho3 hc3 hxc ho hp hr hcd hown hcw hpo hpw hbel b6
          cases r with
          | true =>
            unfold sv at OC CC PC PW BC
            go_wp2_with (at_builtin; refine append_oneF rfl _ _ 35 rfl Tryz.underlying35 hi hz0 hz1 hz2 rfl (by decide) encC_len encC_one (pre := qs) p rfl rfl rfl (by simp) OC (by simp; omega) (unhide HLN) (by decide) ?_; intro g5 q5 w5 O5 g5' l5)
            have B5 := BC.grown g5' BC.size (fun j hj => (OC.lt j hj).1)
            have CW5 := CW.snoc (CC.kept OC g5') ((PW.kept OC g5') p hpm)
            have PO5 := hfar.kept PC g5'
            have F5 := hfar.step' (v' := .slice (some ⟨g5, 0, none⟩) (qs.length + 1) q5) PC (fun k hk => by
              simp only [Value.ownBlock, Option.some.injEq] at hk
              subst hk
              rcases l5 with l5 | l5
              · exact .inl l5
              · exact .inr l5)
            have HCW := hide CW5
            have HPW := hide (PW.kept OC g5')
            have HO5 := hide O5
            have HP5 := hide PO5
            have HF5 := hide F5
            clear g5' l5 OC CC CW5 PC PW PO5 O5 F5 hfar c0 c1 c2 d0 d1
            go_roundw
            case rel => exact ⟨j + 1, qs ++ [p], (by have := unhide HJT; omega), by go_num, hide (by rw [unhide HSN, List.map_append, unhide HQ, List.append_assoc]; rfl), unhide HO5, unhide HCW, unhide HP5, unhide HPW, unhide HF5, B5⟩
            case measure => have := unhide HJT; simp [intOf]; omega
          | false =>
            unfold sv at OC CC PC PW BC
            have HO5 := hide OC
            have HCW := hide CC
            have HP5 := hide PC
            have HPW := hide PW
            have HF5 := hide hfar
            clear OC CC PC PW hfar
            go_wp2
            go_roundw
            case rel => exact ⟨j + 1, qs, (by have := unhide HJT; omega), by go_num, hide (by rw [unhide HSN, unhide HQ]; simp), unhide HO5, unhide HCW, unhide HP5, unhide HPW, unhide HF5, BC⟩
            case measure => have := unhide HJT; simp [intOf]; omega
        · have HQ2 : Hid (qs.map (·.1) = G.left (l.take (k + 1)) (ls.take (k + 1))) := by
            show _ = _
            rw [unhide HQ, G.left_snoc (unhide HX) (unhide HY), List.take_of_length_le (l := S.crd s.1) (by have := unhide HNP; omega), List.take_of_length_le (l := t) (by have := unhide HNP; have := unhide HTL; omega)]
          clear hpo hpw hfar
          go_wp2
          go_roundw
          case rel => exact ⟨k + 1, qs, by omega, by go_num, HQ2, hown, hcw, hbel⟩
          case measure => simp [intOf]; omega
    · have HQ2 : Hid (ps.map (·.1) = G.left l ls) := by
        show _ = _
        rw [unhide HP, List.take_of_length_le (by omega), List.take_of_length_le (by have := unhide HE; omega)]
      have HC := Cs.own hown (fun p hp => Gl.owned (hcw p hp))
      rw [unhide HQ2] at HC
      clear HP hown hcw
      go_wp2
      go_ret
      exact ⟨_, rfl, HC, hbel⟩

set_option maxHeartbeats 1000000 in
theorem leftM_any (v u : Value) (l : List G.Sq) (ls : List (List Bool)) (w : World) (hl : Gs w v l) (hb : Bll w u ls) (hbig : Big l) (hR : G.Right l ls) (hlen : (G.left l ls).length ≤ 4294967295) :
    Calls Tryz.prog 11 #[v, u] w fun e w' => ∃ v', e = .returned v' ∧ Cs w' v' (G.left l ls) ∧ Below w.heap.size w w' := by
  have CC := mayM_any v u l ls w hl hb hbig
  have CD := fun w1 (h : Below w.heap.size w w1) => cardsM_any v u l ls w1 (hl.below h) (hb.below h) hR hlen
  obtain ⟨a, cap, rfl, -⟩ := hl.open
  obtain ⟨a2, cap2, rfl, -⟩ := hb.at
  have HR := hide hR
  clear hl hb hbig hR hlen
  go_enter Tryz.func11, Tryz.ntmps11
  go_wp2_with fail
  refine CC.mono ?_
  rintro e w1 ⟨r, rfl, hr, B1⟩
  obtain rfl : r = true := hr.2 (unhide HR)
  have C2 := CD w1 B1
  clear CC CD hr
  go_wp2_with fail
  refine C2.mono ?_
  rintro e w2 ⟨v', rfl, H2, B2⟩
  have BB := below_trans' B1 B2
  obtain ⟨xa, xc, rfl, -⟩ := id H2.open
  clear C2 B1 B2
  go_wp2
  go_ret
  exact ⟨_, rfl, H2, BB⟩
end Go.Proofs.YtnahjaloodeicaaGreat

/-
  The contract of merge's least.
-/
namespace Go.Proofs.YtnahjaloodeicaaGreat
set_option maxRecDepth 100000
open Go.RowKit Go.Deep

/-- The documents of a walk, as they read. -/
def Ds (w : World) (x : Wk) : Prop := Kl encD 4 w (.slice x.la x.left.length x.lc) x.left
theorem Ds.below {w w' : World} {x : Wk} (h : Ds w x) (hb : Below w.heap.size w w') : Ds w' x := Kl.below h hb
/-- The first one. -/
theorem Ds.first {w : World} {x : Wk} (h : Ds w x) {y : Dc} {t : List Dc} (e : x.left = y :: t) : ∃ b off, x.la = some ⟨b, off, none⟩ ∧ b < w.heap.size ∧ x.left.length ≤ x.lc ∧ x.lc ≤ 9223372036854775807 ∧ w.cell? ⟨b, off, none⟩ = some (.int .i64 y.d) ∧ w.cell? ⟨b, off + 1, none⟩ = some (.string y.id) ∧ w.cell? ⟨b, off + 2, none⟩ = some (.int .i64 y.key) ∧ w.cell? ⟨b, off + 3, none⟩ = some (.slice none 0 0) := by
  obtain ⟨a, cap, hv, hl, hm, -, ho⟩ := Kl.open h encD_len (by decide)
  simp only [Value.slice.injEq, true_and] at hv
  obtain ⟨e1, e2⟩ := hv
  obtain ⟨b, off, e3, hb, hc⟩ := ho (by rw [e]; simp)
  have h0 : x.left[0]? = some y := by rw [e]; rfl
  subst e2
  exact ⟨b, off, e1.trans e3, hb, hl, hm, hc 0 y h0 0 _ rfl, hc 0 y h0 1 _ rfl, hc 0 y h0 2 _ rfl, hc 0 y h0 3 _ rfl⟩

theorem walk_at {w : World} {wb n cap : Nat} {ws : List Wk} (h : Kl encW 2 w (.slice (some ⟨wb, 0, none⟩) n cap) ws) {k : Nat} {x : Wk} (hx : ws[k]? = some x) : w.cell? ⟨wb, k * 2, none⟩ = some (.slice x.la x.left.length x.lc) ∧ w.cell? ⟨wb, k * 2 + 1, none⟩ = some (.slice (some ⟨x.tb, 0, none⟩) x.tab.length x.tab.length) ∧ wb < w.heap.size := by
  obtain ⟨a, c, hv, -, -, -, ho⟩ := h.open encW_len (by decide)
  simp only [Value.slice.injEq] at hv
  obtain ⟨b, off, e3, hb, hc⟩ := ho (by have := (List.getElem?_eq_some_iff.1 hx).1; omega)
  rw [← hv.1] at e3
  simp only [Option.some.injEq, Addr.mk.injEq, and_true] at e3
  obtain ⟨rfl, rfl⟩ := e3
  have c0 := hc k x hx 0 _ rfl
  have c1 := hc k x hx 1 _ rfl
  rw [Nat.zero_add] at c0 c1
  exact ⟨c0, c1, hb⟩

def ptr (wb : Nat) (r : Option (Nat × Dc)) : Value := .pointer (r.map fun q => ⟨wb, q.1 * 2, none⟩)

set_option maxRecDepth 100000 in
set_option maxHeartbeats 8000000 in
theorem leastM_any (wb cap : Nat) (ws : List Wk) (so : Bool) (w : World) (h : Kl encW 2 w (.slice (some ⟨wb, 0, none⟩) ws.length cap) ws) (hd : ∀ x ∈ ws, Ds w x) (r : Option (Nat × Dc)) (hr : G.lst so (ws.map (·.left)) 0 none = r) :
    Calls Tryz.prog 50 #[.slice (some ⟨wb, 0, none⟩) ws.length cap, .bool so] w fun e w' => e = .returned (ptr wb r) ∧ Below w.heap.size w w' := by
  obtain ⟨N, hN⟩ : ∃ N, ws.length = N := ⟨_, rfl⟩
  have hcap : N ≤ cap ∧ cap ≤ 9223372036854775807 := by
    obtain ⟨a, c, hv, hl, hm, -, -⟩ := h.open encW_len (by decide)
    simp only [Value.slice.injEq] at hv
    omega
  have HR := hide hr
  have HD := hide hd
  rw [hN] at h
  have HH := hide h
  have HN := hide hN
  rw [hN]
  clear hr hd h hN
  go_enter Tryz.func50, Tryz.ntmps50
  go_wp2
  go_loopw [5, 10] (fun fv iv wr => ∃ (k : Nat) (b : Option (Nat × Dc)), k ≤ N ∧ iv = .int .i64 k ∧ fv = ptr wb b ∧ Hid (G.lst so ((ws.drop k).map (·.left)) k b = r) ∧ Hid (∀ q, b = some q → ∃ x t, ws[q.1]? = some x ∧ x.left = q.2 :: t) ∧ Below w.heap.size w wr) (fun _ iv _ => N - (intOf iv).toNat)
  case atStart => exact ⟨0, none, Nat.zero_le _, rfl, rfl, HR, hide (fun q e => by cases e), Below.refl _ _⟩
  case round =>
    obtain ⟨k, b, hk, rfl, rfl, HL, HQ, hbel⟩ := hrel
    by_cases hlt : k < N
    · obtain ⟨x, hx⟩ : ∃ x, ws[k]? = some x := ⟨_, List.getElem?_eq_getElem (by have := unhide HN; omega)⟩
      have HDR : Hid (ws.drop k = x :: ws.drop (k + 1)) := by
        obtain ⟨hk', rfl⟩ := List.getElem?_eq_some_iff.1 hx
        exact (List.drop_eq_getElem_cons hk')
      have hR := (unhide HH).below hbel
      obtain ⟨c0, -, hwb⟩ := walk_at hR hx
      have hxm := List.mem_of_getElem? hx
      obtain ⟨m, hm⟩ : ∃ m, x.left.length = m := ⟨_, rfl⟩
      rw [hm] at c0
      have HM := hide hm
      clear hm hx
      by_cases h0 : m = 0
      · have HX : Hid (x.left = []) := List.eq_nil_of_length_eq_zero (by have := unhide HM; omega)
        have HL2 : Hid (G.lst so ((ws.drop (k + 1)).map (·.left)) (k + 1) b = r) := by
          have := unhide HL
          rw [unhide HDR, List.map_cons, unhide HX, G.lst] at this
          exact this
        subst h0
        clear hR
        go_wp2
        go_roundw
        case rel => exact ⟨k + 1, b, by omega, by go_num, rfl, HL2, HQ, hbel⟩
        case measure => simp [intOf]; omega
      · obtain ⟨y, t, hyt⟩ : ∃ y t, x.left = y :: t := by
          cases hxl : x.left with
          | nil => have := unhide HM; rw [hxl] at this; exact absurd this.symm h0
          | cons y t => exact ⟨y, t, rfl⟩
        obtain ⟨db, df, hla, hdb, hlc, hmc, d0, d1, d2, d3⟩ := (((unhide HD) x hxm).below hbel).first hyt
        rw [hla] at c0
        rw [unhide HM] at hlc
        obtain ⟨xc, hxc⟩ : ∃ xc, x.lc = xc := ⟨_, rfl⟩
        rw [hxc] at c0 hlc hmc
        clear hxc hla
        have hm00 : 0 < m := by omega
        have h00 : ((m : Int) == 0) = false := by rw [beq_eq_false_iff_ne]; omega
        have HY := hide hyt
        have HWX : Hid (ws[k]? = some x) := by
          show _ = _
          have := congrArg (fun l : List Wk => l[0]?) (unhide HDR)
          simpa using this
        have HL2 : Hid (G.lst so (x.left :: (ws.drop (k + 1)).map (·.left)) k b = r) := by
          have := unhide HL
          rw [unhide HDR, List.map_cons] at this
          exact this
        clear hyt
        cases b with
        | none =>
          have HL3 : Hid (G.lst so ((ws.drop (k + 1)).map (·.left)) (k + 1) (some (k, y)) = r) := by
            have := unhide HL2
            rw [unhide HY, G.lst] at this
            exact this
          clear hR d0 d1 d2 d3
          unfold ptr
          go_wp2
          go_quiet (fail)
          go_wp2
          go_roundw
          case rel => exact ⟨k + 1, some (k, y), by omega, by go_num, rfl, HL3, hide (fun q e => by cases e; exact ⟨x, t, unhide HWX, unhide HY⟩), below_dr hbel _⟩
          case measure => simp [intOf]; omega
        | some q =>
          obtain ⟨j, z⟩ := q
          cases so with
          | false =>
            have HL3 : Hid (G.lst false ((ws.drop (k + 1)).map (·.left)) (k + 1) (some (j, z)) = r) := by
              have := unhide HL2
              rw [unhide HY, G.lst, if_neg (by simp)] at this
              exact this
            clear hR d0 d1 d2 d3
            unfold ptr
            go_wp2
            go_quiet (fail)
            go_wp2
            go_roundw
            case rel => exact ⟨k + 1, some (j, z), by omega, by go_num, rfl, HL3, HQ, below_dr hbel _⟩
            case measure => simp [intOf]; omega
          | true =>
            obtain ⟨x2, t2, hx2, hz⟩ := (unhide HQ) _ rfl
            obtain ⟨e0, -, -⟩ := walk_at hR hx2
            obtain ⟨eb, ef, hea, heb, helc, hemc, g0, g1, g2, g3⟩ := (((unhide HD) x2 (List.mem_of_getElem? hx2)).below hbel).first hz
            obtain ⟨m2, hm2⟩ : ∃ m2, x2.left.length = m2 := ⟨_, rfl⟩
            have hm20 : 0 < m2 := by rw [← hm2, hz]; simp
            obtain ⟨xc2, hxc2⟩ : ∃ xc2, x2.lc = xc2 := ⟨_, rfl⟩
            rw [hea, hm2, hxc2] at e0
            rw [hm2, hxc2] at helc
            obtain ⟨bf, hbf⟩ : ∃ bf, S.before y.c z.c = bf := ⟨_, rfl⟩
            have HL3 : Hid (G.lst true ((ws.drop (k + 1)).map (·.left)) (k + 1) (if bf = true then some (k, y) else some (j, z)) = r) := by
              show _ = _
              have := unhide HL2
              rw [unhide HY, G.lst] at this
              simpa [hbf] using this
            have CB := fun w1 => before_b y.c z.c none none 0 0 0 0 w1 bf hbf
            have KB : ∀ w' : World, Below wr.heap.size wr w' → Below wr.heap.size wr w' ∧ w'.cell? ⟨wb, k * 2, none⟩ = some (.slice (some ⟨db, df, none⟩) m xc) ∧ w'.cell? ⟨wb, j * 2, none⟩ = some (.slice (some ⟨eb, ef, none⟩) m2 xc2) ∧ w'.cell? ⟨db, df + 1, none⟩ = some (.string y.id) ∧ w'.cell? ⟨db, df + 1 + 1, none⟩ = some (.int .i64 y.key) ∧ w'.cell? ⟨db, df + 1 + 2, none⟩ = some (.slice none 0 0) ∧
                w'.cell? ⟨eb, ef + 1, none⟩ = some (.string z.id) ∧ w'.cell? ⟨eb, ef + 1 + 1, none⟩ = some (.int .i64 z.key) ∧ w'.cell? ⟨eb, ef + 1 + 2, none⟩ = some (.slice none 0 0) := fun w' hb =>
              ⟨hb, (hb.cell (p := ⟨wb, _, none⟩) hwb).trans c0, (hb.cell (p := ⟨wb, _, none⟩) hwb).trans e0, (hb.cell (p := ⟨db, _, none⟩) hdb).trans d1, (hb.cell (p := ⟨db, _, none⟩) hdb).trans d2, (hb.cell (p := ⟨db, _, none⟩) hdb).trans d3, (hb.cell (p := ⟨eb, _, none⟩) heb).trans g1, (hb.cell (p := ⟨eb, _, none⟩) heb).trans g2, (hb.cell (p := ⟨eb, _, none⟩) heb).trans g3⟩
            have HKB := hide KB
            have HX2 := hide hx2
            have HZ := hide hz
            clear hR hx2 hz hm2 hxc2 hea hbf KB d0 g0
            unfold Dc.c at CB
            unfold ptr
            go_wp2
            go_region_held3 (fun w' => Below wr.heap.size wr w' ∧ w'.cell? ⟨wb, k * 2, none⟩ = some (.slice (some ⟨db, df, none⟩) m xc) ∧ w'.cell? ⟨wb, j * 2, none⟩ = some (.slice (some ⟨eb, ef, none⟩) m2 xc2) ∧ w'.cell? ⟨db, df + 1, none⟩ = some (.string y.id) ∧ w'.cell? ⟨db, df + 1 + 1, none⟩ = some (.int .i64 y.key) ∧ w'.cell? ⟨db, df + 1 + 2, none⟩ = some (.slice none 0 0) ∧
                w'.cell? ⟨eb, ef + 1, none⟩ = some (.string z.id) ∧ w'.cell? ⟨eb, ef + 1 + 1, none⟩ = some (.int .i64 z.key) ∧ w'.cell? ⟨eb, ef + 1 + 2, none⟩ = some (.slice none 0 0))
              (first | exact unhide HKB _ (Below.refl _ _).drew | exact unhide HKB _ B9)
              ((go_at_call 74; refine (CB _).mono ?_; rintro e w9 ⟨rfl, B8⟩; have B9 : Below wr.heap.size wr w9 := below_trans' (Below.refl _ _).drew B8))
            have BB := below_trans' hbel B9
            clear B8 B9 e0 c0 d1 d2 d3 g1 g2 g3
            cases bf with
            | true =>
              go_wp2
              go_roundw
              case rel => exact ⟨k + 1, some (k, y), by omega, by go_num, rfl, by simpa using HL3, hide (fun q e => by cases e; exact ⟨x, t, unhide HWX, unhide HY⟩), BB⟩
              case measure => simp [intOf]; omega
            | false =>
              go_wp2
              go_roundw
              case rel => exact ⟨k + 1, some (j, z), by omega, by go_num, rfl, by simpa using HL3, HQ, BB⟩
              case measure => simp [intOf]; omega
    · have HRE : Hid (b = r) := by
        have := unhide HL
        rw [List.drop_eq_nil_of_le (by have := unhide HN; omega)] at this
        exact this
      go_wp2
      go_ret
      rw [unhide HRE]
      exact ⟨rfl, hbel⟩
end Go.Proofs.YtnahjaloodeicaaGreat

/-
  The contract of pass: the first one, and what is left behind it.
-/
namespace Go.Proofs.YtnahjaloodeicaaGreat
set_option maxRecDepth 100000
open Go.RowKit Go.Deep

theorem Kl.tail11 {α : Type} {f : α → List Value} {k : Nat} {w : World} {b off n cap : Nat} {y : α} {t : List α} (h : Kl f k w (.slice (some ⟨b, off, none⟩) n cap) (y :: t)) :
    ∃ la', sliced (some ⟨b, off, none⟩) 1 n cap k = .slice la' (n - 1) (cap - 1) ∧ (∀ x, la' = some x → x.block = b) ∧ Kl f k w (.slice la' (n - 1) (cap - 1)) t := by
  obtain ⟨a, c, hv, hl, hm, hn, hc⟩ := h
  simp only [Value.slice.injEq] at hv
  obtain ⟨rfl, rfl, rfl⟩ := hv
  refine ⟨_, rfl, ?_, ?_⟩
  · intro x hx
    split at hx
    · cases hx; rfl
    · simp [Addr.add_lit] at hx
      rw [← hx]
  · refine ⟨_, _, by simp only [List.length_cons, Nat.add_sub_cancel]; rfl, by simp at hl; omega, by unfold maxLen at *; omega, ?_, ?_⟩
    · intro h9
      split at h9
      · cases h9
      · simp at h9
    · intro x hx i u hi j v hv
      have hi1 := (List.getElem?_eq_some_iff.1 hi).1
      have hcap : ¬ cap = 1 := by simp at hl; omega
      rw [if_neg hcap] at hx
      simp [Addr.add_lit] at hx
      subst hx
      have := hc _ rfl (i + 1) u (by simpa using hi) j v hv
      rw [Addr.add_lit] at this ⊢
      rw [← this]
      congr 2
      rw [Nat.add_mul]
      omega

theorem run_docs_from (a : Option Addr) (n cap : Nat) (hm : 1 ≤ n) (w : World) :
    (Instr.slice 85 (.slice a n cap) (some (.int .i64 1)) none none).run Tryz.prog w = .ok (sliced a 1 n cap 4) w := by
  have hs : ∀ w : World, (sizeOf (Tryz.prog.elem 85)).run Tryz.prog w = .ok 4 w := fun w => by kernel_rfl
  rw [run_slice_l w 85 _ n cap (by kernel_rfl) .i64 1 (by omega) (by omega), hs]
  simp [Result.andThen]

def PassEnd (w : World) (wb i : Nat) (y : Dc) (v' : Value) (e : Ending) (w' : World) : Prop :=
  e = .returned (.agg #[.int .i64 y.d, .string y.id, .int .i64 y.key, .slice none 0 0]) ∧ Below w.heap.size (w.setCell ⟨wb, i * 2, none⟩ v') w'

set_option maxRecDepth 100000 in
set_option maxHeartbeats 4000000 in
theorem pass_any (wb i db df m xc : Nat) (la' : Option Addr) (y : Dc) (w : World) (hw : wb < w.heap.size) (hdb : db < w.heap.size) (hc : w.cell? ⟨wb, i * 2, none⟩ = some (.slice (some ⟨db, df, none⟩) m xc)) (hf : w.frozen? ⟨wb, i * 2, none⟩ = false) (hm : 0 < m)
    (hs : sliced (some ⟨db, df, none⟩) 1 m xc 4 = .slice la' (m - 1) (xc - 1))
    (d0 : w.cell? ⟨db, df, none⟩ = some (.int .i64 y.d)) (d1 : w.cell? ⟨db, df + 1, none⟩ = some (.string y.id)) (d2 : w.cell? ⟨db, df + 2, none⟩ = some (.int .i64 y.key)) (d3 : w.cell? ⟨db, df + 3, none⟩ = some (.slice none 0 0)) :
    Calls Tryz.prog 51 #[.pointer (some ⟨wb, i * 2, none⟩)] w (PassEnd w wb i y (.slice la' (m - 1) (xc - 1))) := by
  have hrun := fun w => run_docs_from (some ⟨db, df, none⟩) m xc hm w
  rw [hs] at hrun
  have hm' : (0 : Int) < (m : Int) := by omega
  have q1 : db ≠ w.heap.size := by omega
  have q2 : wb ≠ w.heap.size := by omega
  have q3 : wb < w.heap.size + 1 := by omega
  have q4 : wb ≠ w.heap.size + 1 := by omega
  clear hs
  go_enter Tryz.func51, Tryz.ntmps51
  go_wp2
  have BE : Below w.heap.size (w.setCell ⟨wb, i * 2, none⟩ (.slice la' (m - 1) (xc - 1))) (((w.setCell ⟨wb, i * 2, none⟩ (.slice la' (m - 1) (xc - 1))).alloc (.cells #[.int .i64 y.d, .string y.id, .int .i64 y.key, .slice none 0 0] 94)).alloc (.cells #[.int .i64 y.d, .string y.id, .int .i64 y.key, .slice none 0 0] 94)) :=
    ((Below.refl _ _).alloc (by simp) _).alloc (by simp) _
  exact bodyPost_ret (v := .agg #[.int .i64 y.d, .string y.id, .int .i64 y.key, .slice none 0 0]) (by simp [results, Tryz.results51, go_sem]) rfl ⟨rfl, BE⟩
end Go.Proofs.YtnahjaloodeicaaGreat

/-
  What merge's tables keeps: the walks' row, their documents, their tables, and the row of the tables; how it stays behind new memory, an append, and one document that was passed. No function of the program is named here.
-/
namespace Go.Proofs.YtnahjaloodeicaaGreat
set_option maxRecDepth 100000
open Go.RowKit Go.Deep

def pts (x : Wk) : Pts := (some ⟨x.tb, 0, none⟩, x.tab.length, x.tab.length)
/-- Ahead of the first place: all the call's own. -/
structure Wo (B : Nat) (w : World) (ws : List Wk) : Prop where
  docs : ∀ x ∈ ws, w.ownsRow B 94 4 (.slice x.la x.left.length x.lc) x.left.length (x.left.flatMap encD)
  tabs : ∀ x ∈ ws, w.ownsRow B 3 1 (.slice (some ⟨x.tb, 0, none⟩) x.tab.length x.tab.length) x.tab.length (x.tab.map (Value.int .i64))
  ap : ws.Pairwise fun x y => x.tb ≠ y.tb
theorem Wo.nil (B : Nat) (w : World) : Wo B w [] := ⟨(fun x hx => by cases hx), (fun x hx => by cases hx), List.Pairwise.nil⟩
theorem Wo.below {B : Nat} {w w' : World} {ws : List Wk} (h : Wo B w ws) (hb : Below w.heap.size w w') : Wo B w' ws := ⟨fun x hx => own_below (h.docs x hx) hb, fun x hx => own_below (h.tabs x hx) hb, h.ap⟩
theorem Wo.kept {B B' K n : Nat} {w w' : World} {ws : List Wk} {e : TypeId} {v : Value} {xs : List Value} (h : Wo B w ws) (o : w.ownsRow B' e K v n xs) (h1 : 94 ≠ e) (h2 : 3 ≠ e) (g : w.grownBy w' v.ownBlock) : Wo B w' ws :=
  ⟨fun x hx => World.ownsRow.kept (h.docs x hx) g (own_apart (h.docs x hx) o h1), fun x hx => World.ownsRow.kept (h.tabs x hx) g (own_apart (h.tabs x hx) o h2), h.ap⟩
theorem Wo.snoc {B N : Nat} {w0 w : World} {ws : List Wk} {x : Wk} (h0 : Wo B w0 ws) (hb : Below w0.heap.size w0 w) (hN : w0.heap.size ≤ N) (hB : B ≤ N)
    (hd : w.ownsRow N 94 4 (.slice x.la x.left.length x.lc) x.left.length (x.left.flatMap encD)) (ht : w.ownsRow N 3 1 (.slice (some ⟨x.tb, 0, none⟩) x.tab.length x.tab.length) x.tab.length (x.tab.map (Value.int .i64))) : Wo B w (ws ++ [x]) := by
  have h := h0.below hb
  refine ⟨fun y hy => ?_, fun y hy => ?_, ?_⟩
  · rcases List.mem_append.1 hy with hy | hy
    · exact h.docs y hy
    · simp only [List.mem_singleton] at hy
      subst hy
      exact own_mono hd hB
  · rcases List.mem_append.1 hy with hy | hy
    · exact h.tabs y hy
    · simp only [List.mem_singleton] at hy
      subst hy
      exact own_mono ht hB
  · rw [List.pairwise_append]
    refine ⟨h.ap, List.pairwise_singleton _ _, fun y hy z hz => ?_⟩
    simp only [List.mem_singleton] at hz
    subst hz
    have h1 := ((h0.tabs y hy).lt y.tb rfl).2
    have h2 := (ht.lt z.tb rfl).1
    omega

/-- Between two appends: the box of the walk that was begun. -/
structure At7 (B : Nat) (w0 w : World) (g : Nat) (ws : List Wk) (x : Wk) : Prop where
  box : w.heap[g]? = some (.cells #[.slice x.la x.left.length x.lc, .slice (some ⟨x.tb, 0, none⟩) x.tab.length x.tab.length] 89 (0, 0))
  wo : Wo B w (ws ++ [x])
  bel : Below B w0 w
  le : B ≤ w.heap.size
theorem At7.below {B g : Nat} {w0 w w' : World} {ws : List Wk} {x : Wk} (h : At7 B w0 w g ws x) (hb : Below w.heap.size w w') : At7 B w0 w' g ws x := ⟨box_below h.box hb, h.wo.below hb, h.bel.trans (hb.mono h.le), Nat.le_trans h.le hb.size⟩
theorem At7.app {B g K n : Nat} {w0 w w' : World} {ws : List Wk} {x : Wk} {e : TypeId} {v : Value} {xs : List Value} (h : At7 B w0 w g ws x) (o : w.ownsRow B e K v n xs) (h1 : 94 ≠ e) (h2 : 3 ≠ e) (hg : some g ≠ v.ownBlock) (gr : w.grownBy w' v.ownBlock) : At7 B w0 w' g ws x :=
  ⟨box_grown h.box gr hg, h.wo.kept o h1 h2 gr, h.bel.grown gr h.le (fun j hj => (o.lt j hj).1), Nat.le_trans h.le gr.size⟩
theorem At7.cells {B g : Nat} {w0 w : World} {ws : List Wk} {x : Wk} (h : At7 B w0 w g ws x) : At7 B w0 w g ws x ∧ w.cell? ⟨g, 0, none⟩ = some (.slice x.la x.left.length x.lc) ∧ w.cell? ⟨g, 1, none⟩ = some (.slice (some ⟨x.tb, 0, none⟩) x.tab.length x.tab.length) := ⟨h, box_cell h.box (j := 0) rfl, box_cell h.box (j := 1) rfl⟩

/-- From the first place on. -/
structure S2 (B : Nat) (w : World) (wb cap : Nat) (v8 : Value) (ws : List Wk) : Prop where
  row : w.ownsRow B 89 2 (.slice (some ⟨wb, 0, none⟩) ws.length cap) ws.length (ws.flatMap encW)
  docs : ∀ x ∈ ws, Ds w x
  ty : ∀ x ∈ ws, ∀ p, x.la = some p → ∃ cs fr, w.heap[p.block]? = some (.cells cs 94 fr)
  tabs : ∀ x ∈ ws, w.ownsRow B 3 1 (.slice (some ⟨x.tb, 0, none⟩) x.tab.length x.tab.length) x.tab.length (x.tab.map (Value.int .i64))
  ap : ws.Pairwise fun x y => x.tb ≠ y.tb
  all : w.ownsRow B 27 1 v8 ws.length (ws.map fun x => sv (pts x))

theorem own_type {w : World} {B g K n m c : Nat} {o : Nat} {e : TypeId} {xs : List Value} (h : w.ownsRow B e K (.slice (some ⟨g, o, none⟩) m c) n xs) : ∃ cs fr, w.heap[g]? = some (.cells cs e fr) := by
  rcases h.2 with ⟨h1, -⟩ | ⟨g', cap, cur, h1, -, h2, -⟩
  · cases h1
  · simp only [Value.slice.injEq, Option.some.injEq, Addr.mk.injEq] at h1
    obtain ⟨⟨rfl, -, -⟩, -, -⟩ := h1
    exact ⟨_, _, h2⟩
theorem ne_type {w : World} {b c : Nat} {cs ds : Array Value} {e f : TypeId} {fr gr : Nat × Nat} (h : w.heap[b]? = some (.cells cs e fr)) (k : w.heap[c]? = some (.cells ds f gr)) (hne : e ≠ f) : b ≠ c := fun e9 => by
  subst e9
  rw [h] at k
  simp only [Option.some.injEq, Obj.cells.injEq] at k
  exact hne k.2.1

theorem Wo.s2 {B wb cap : Nat} {w : World} {v8 : Value} {ws : List Wk} (h : Wo B w ws) (hr : w.ownsRow B 89 2 (.slice (some ⟨wb, 0, none⟩) ws.length cap) ws.length (ws.flatMap encW)) (ha : w.ownsRow B 27 1 v8 ws.length (ws.map fun x => sv (pts x))) : S2 B w wb cap v8 ws where
  row := hr
  docs x hx := Kl.owned encD_len (by decide) (h.docs x hx)
  ty x hx p hp := by
    have o := h.docs x hx
    rw [hp] at o
    obtain ⟨b, off, spot⟩ := p
    rcases o.2 with ⟨h1, -⟩ | ⟨g', cap, cur, h1, -, h2, -⟩
    · cases h1
    · simp only [Value.slice.injEq, Option.some.injEq, Addr.mk.injEq] at h1
      obtain ⟨⟨rfl, -, -⟩, -, -⟩ := h1
      exact ⟨_, _, h2⟩
  tabs := h.tabs
  ap := h.ap
  all := ha
theorem S2.below {B wb cap : Nat} {w w' : World} {v8 : Value} {ws : List Wk} (h : S2 B w wb cap v8 ws) (hb : Below w.heap.size w w') : S2 B w' wb cap v8 ws where
  row := own_below h.row hb
  docs x hx := (h.docs x hx).below hb
  ty x hx p hp := by
    obtain ⟨cs, fr, h1⟩ := h.ty x hx p hp
    exact ⟨cs, fr, box_below h1 hb⟩
  tabs x hx := own_below (h.tabs x hx) hb
  ap := h.ap
  all := own_below h.all hb

theorem Kl.keep11 {α : Type} {f : α → List Value} {k : Nat} {w w' : World} {v : Value} {l : List α} (h : Kl f k w v l) (hk : ∀ p n c, v = .slice (some p) n c → w'.heap[p.block]? = w.heap[p.block]?) : Kl f k w' v l := by
  obtain ⟨a, cap, hv, hl, hm, hn, hc⟩ := h
  refine ⟨a, cap, hv, hl, hm, hn, fun x hx i y hi j u hu => ?_⟩
  subst hx
  have := hc x rfl i y hi j u hu
  rw [← this]
  refine World.cell?_of_block ?_
  have e : (x.add (i * k + j)).block = x.block := by unfold Addr.add; split <;> rfl
  rw [e]
  exact hk x _ _ hv

theorem set_heap_ne {w : World} {p : Addr} {k : Nat} (h : k ≠ p.block) (u : Value) : (w.setCell p u).heap[k]? = w.heap[k]? := Below.heap_setCell w p u k (fun e => h e)

/-- A document was passed, and its place laid. -/
theorem S2.step {B wb cap i d db df m : Nat} {p : Int} {w w2 : World} {v8 : Value} {ws : List Wk} {la' : Option Addr} {lc tb : Nat} {y : Dc} {t : List Dc} {tab : List Int} (h : S2 B w wb cap v8 ws) (hi : ws[i]? = some ⟨some ⟨db, df, none⟩, lc, y :: t, tb, tab⟩) (hd : d < tab.length) (hm : m = t.length)
    (hl : ∀ x, la' = some x → x.block = db) (hK : Kl encD 4 w (.slice la' m (lc - 1)) t) (hb : Below w.heap.size (w.setCell ⟨wb, i * 2, none⟩ (.slice la' m (lc - 1))) w2) :
    S2 B (w2.setCell ⟨tb, d, none⟩ (.int .i64 p)) wb cap v8 (ws.set i ⟨la', lc - 1, t, tb, tab.set d p⟩) ∧ w2.cell? ⟨tb, d, none⟩ = some (.int .i64 (tab.getD d 0)) ∧ w2.frozen? ⟨tb, d, none⟩ = false ∧ w2.cell? ⟨wb, i * 2 + 1, none⟩ = some (.slice (some ⟨tb, 0, none⟩) tab.length tab.length) ∧ tb ≠ wb := by
  subst hm
  have hx := List.mem_of_getElem? hi
  have hil := (List.getElem?_eq_some_iff.1 hi).1
  obtain ⟨csW, frW, tW⟩ := own_type h.row
  have hT := h.tabs _ hx
  simp only at hT
  obtain ⟨csT, frT, tT⟩ := own_type hT
  obtain ⟨csD, frD, tD⟩ := h.ty _ hx _ rfl
  simp only at tD
  have nWT : wb ≠ tb := ne_type tW tT (by decide)
  have nDW : db ≠ wb := ne_type tD tW (by decide)
  have nDT : db ≠ tb := ne_type tD tT (by decide)
  have sW := (Array.getElem?_eq_some_iff.1 tW).1
  have sT := (Array.getElem?_eq_some_iff.1 tT).1
  have sD := (Array.getElem?_eq_some_iff.1 tD).1
  have k2 : ∀ k, k < w.heap.size → k ≠ wb → w2.heap[k]? = w.heap[k]? := fun k hk hne => (hb.block k hk).trans (set_heap_ne (p := ⟨wb, i * 2, none⟩) hne _)
  have k3 : ∀ k, k < w.heap.size → k ≠ wb → k ≠ tb → (w2.setCell ⟨tb, d, none⟩ (.int .i64 p)).heap[k]? = w.heap[k]? := fun k hk hne hne2 => (set_heap_ne (p := ⟨tb, d, none⟩) hne2 _).trans (k2 k hk hne)
  have k3W : (w2.setCell ⟨tb, d, none⟩ (.int .i64 p)).heap[wb]? = (w.setCell ⟨wb, i * 2, none⟩ (.slice la' t.length (lc - 1))).heap[wb]? := (set_heap_ne (p := ⟨tb, d, none⟩) nWT _).trans (hb.block wb sW)
  have hT2 : w2.ownsRow B 3 1 (.slice (some ⟨tb, 0, none⟩) tab.length tab.length) tab.length (tab.map (Value.int .i64)) := own_keep hT fun b hb9 => by
    simp only [Value.ownBlock, Option.some.injEq] at hb9
    subst hb9
    exact k2 _ sT (Ne.symm nWT)
  have key : ∀ x ∈ ws.set i ⟨la', lc - 1, t, tb, tab.set d p⟩, x ∈ ws ∨ x = ⟨la', lc - 1, t, tb, tab.set d p⟩ := fun x hx => by
    rcases List.mem_or_eq_of_mem_set hx with h9 | h9
    · exact .inl h9
    · exact .inr h9
  refine ⟨⟨?_, ?_, ?_, ?_, ?_, ?_⟩, ?_, ?_, ?_, Ne.symm nWT⟩
  · have h1 := (h.row.stored (i * 2) (.slice la' t.length (lc - 1))).1
    have e := flat_set encW_len (u := .slice la' t.length (lc - 1)) (y' := ⟨la', lc - 1, t, tb, tab.set d p⟩) hi (show 0 < 2 by decide) (by simp [encW])
    rw [Nat.add_zero] at e
    rw [e] at h1
    rw [List.length_set]
    exact own_keep h1 fun b hb9 => by
      simp only [Value.ownBlock, Option.some.injEq] at hb9
      subst hb9
      exact k3W
  · intro x hx
    rcases key x hx with hx | rfl
    · refine Kl.keep11 (h.docs x hx) fun q n c hq => ?_
      simp only [Value.slice.injEq] at hq
      obtain ⟨cs, fr, hq2⟩ := h.ty x hx q hq.1
      exact k3 _ (Array.getElem?_eq_some_iff.1 hq2).1 (ne_type hq2 tW (by decide)) (ne_type hq2 tT (by decide))
    · refine Kl.keep11 (show Kl encD 4 w _ t from hK) fun q n c hq => ?_
      simp only [Value.slice.injEq] at hq
      rw [hl q hq.1]
      exact k3 _ sD nDW nDT
  · intro x hx q hq
    rcases key x hx with hx | rfl
    · obtain ⟨cs, fr, hq2⟩ := h.ty x hx q hq
      exact ⟨cs, fr, (k3 _ (Array.getElem?_eq_some_iff.1 hq2).1 (ne_type hq2 tW (by decide)) (ne_type hq2 tT (by decide))).trans hq2⟩
    · rw [hl q hq]
      exact ⟨csD, frD, (k3 _ sD nDW nDT).trans tD⟩
  · intro x hx
    obtain ⟨j, hj⟩ := List.mem_iff_getElem?.1 hx
    by_cases e : i = j
    · subst e
      rw [List.getElem?_set_self hil] at hj
      cases hj
      simp only
      have := own_put (f := Value.int .i64) hT2 rfl d p
      simpa using this
    · rw [List.getElem?_set_ne e] at hj
      have hxm := List.mem_of_getElem? hj
      have hne : x.tb ≠ tb := by
        have hp := h.ap
        rw [List.pairwise_iff_getElem] at hp
        obtain ⟨j1, j2⟩ := List.getElem?_eq_some_iff.1 hj
        obtain ⟨i1, i2⟩ := List.getElem?_eq_some_iff.1 hi
        rcases Nat.lt_or_ge i j with h9 | h9
        · have := hp i j i1 j1 h9
          rw [i2, j2] at this
          exact Ne.symm this
        · have := hp j i j1 i1 (by omega)
          rw [i2, j2] at this
          exact this
      obtain ⟨cs, fr, hq2⟩ := own_type (h.tabs x hxm)
      exact own_keep (h.tabs x hxm) fun b hb9 => by
        simp only [Value.ownBlock, Option.some.injEq] at hb9
        subst hb9
        exact k3 _ (Array.getElem?_eq_some_iff.1 hq2).1 (ne_type hq2 tW (by decide)) hne
  · rw [List.pairwise_iff_getElem]
    have hp := h.ap
    rw [List.pairwise_iff_getElem] at hp
    obtain ⟨i1, i2⟩ := List.getElem?_eq_some_iff.1 hi
    intro a b ha hb9 hab
    rw [List.length_set] at ha hb9
    rw [List.getElem_set, List.getElem_set]
    split
    · rename_i e; subst e
      rw [if_neg (by omega)]
      have := hp i b ha hb9 hab
      rw [i2] at this
      exact this
    · split
      · rename_i e; subst e
        have := hp a i ha hb9 hab
        rw [i2] at this
        exact this
      · exact hp a b ha hb9 hab
  · have e : ((ws.set i ⟨la', lc - 1, t, tb, tab.set d p⟩).map fun x => sv (pts x)) = ws.map fun x => sv (pts x) := by
      rw [List.map_set]
      refine List.ext_getElem? fun j => ?_
      by_cases e : i = j
      · subst e
        rw [List.getElem?_set_self (by simpa using hil), List.getElem?_map, hi]
        simp [pts, sv]
      · rw [List.getElem?_set_ne e]
    rw [e, List.length_set]
    exact own_keep h.all fun b hb9 => by
      have h1 := h.all.lt b hb9
      refine k3 b h1.2 ?_ ?_
      · intro e9
        subst e9
        exact own_ne_box h.all tW (by decide) hb9.symm
      · intro e9
        subst e9
        exact own_ne_box h.all tT (by decide) hb9.symm
  · rw [own_at (f := Value.int .i64) hT2 rfl (List.getElem?_eq_getElem hd)]
    simp [List.getD, hd]
  · exact own_froz (f := Value.int .i64) hT2 rfl d
  · have h1 := (walk_at (Kl.owned encW_len (by decide) h.row) hi).2.1
    rw [World.cell?_of_block (hb.block wb sW)]
    simp only at h1
    rw [← h1]
    apply World.cell?_setCell_other
    intro e
    simp only [Addr.mk.injEq] at e
    omega
end Go.Proofs.YtnahjaloodeicaaGreat

/-
  What merge's tables keeps, as plain lists: who is left of each walk and what its table has; one place further; at the end.
-/
namespace Go.Proofs.YtnahjaloodeicaaGreat
set_option maxRecDepth 100000
open Go.RowKit Go.Deep

def C1 (so : Bool) (l : List G.Sq) (ls : List (List Bool)) (ws : List Wk) : Prop := ∀ (i : Nat) (s : G.Sq) (a : List Bool) (x : Wk), l[i]? = some s → ls[i]? = some a → ws[i]? = some x → x.left = G.wk so s.1 a ∧ x.tab = List.replicate s.1.ids.length (-1)
theorem C1.nil {so : Bool} {l : List G.Sq} {ls : List (List Bool)} : C1 so l ls [] := fun i s a x _ _ h => by simp at h
theorem C1.snoc {so : Bool} {l : List G.Sq} {ls : List (List Bool)} {ws : List Wk} {k : Nat} {s : G.Sq} {a : List Bool} {x : Wk} (h : C1 so l ls ws) (hk : ws.length = k) (h1 : l[k]? = some s) (h2 : ls[k]? = some a) (hl : x.left = G.wk so s.1 a) (ht : x.tab = List.replicate s.1.ids.length (-1)) : C1 so l ls (ws ++ [x]) := by
  intro i s' a' y g1 g2 g3
  rcases Nat.lt_or_ge i k with h9 | h9
  · rw [List.getElem?_append_left (by omega)] at g3
    exact h i s' a' y g1 g2 g3
  · rw [List.getElem?_append_right (by omega)] at g3
    have e : i - ws.length = 0 := by have := (List.getElem?_eq_some_iff.1 g3).1; simp at this; omega
    rw [e] at g3
    simp at g3
    subst g3
    have : i = k := by omega
    subst this
    rw [h1] at g1
    rw [h2] at g2
    cases g1
    cases g2
    exact ⟨hl, ht⟩

def C2 (so : Bool) (l : List G.Sq) (ls : List (List Bool)) (P : Dc → Nat) (p : Nat) (ws : List Wk) : Prop := ∀ (i : Nat) (s : G.Sq) (a : List Bool) (x : Wk), l[i]? = some s → ls[i]? = some a → ws[i]? = some x → x.left = G.rest P p (G.wk so s.1 a) ∧ G.Tt P p (G.wk so s.1 a) s.1.ids.length x.tab
theorem C1.start {so : Bool} {l : List G.Sq} {ls : List (List Bool)} {ws : List Wk} (P : Dc → Nat) (h : C1 so l ls ws) : C2 so l ls P 0 ws := fun i s a x h1 h2 h3 => by
  obtain ⟨e1, e2⟩ := h i s a x h1 h2 h3
  exact ⟨by rw [e1, G.rest_start], by rw [e2]; exact G.Tt.start P _ _⟩

section
variable {so : Bool} {l : List G.Sq} {ls : List (List Bool)} {P : Dc → Nat} {p : Nat} {ws : List Wk}
theorem three_at (hN : ws.length = l.length) (hl : l.length = ls.length) {i : Nat} (hi : i < l.length) : ∃ s a x, l[i]? = some s ∧ ls[i]? = some a ∧ ws[i]? = some x :=
  ⟨_, _, _, List.getElem?_eq_getElem hi, List.getElem?_eq_getElem (by omega), List.getElem?_eq_getElem (by omega)⟩
theorem C2.lefts (h : C2 so l ls P p ws) (hN : ws.length = l.length) (hl : l.length = ls.length) : ws.map (·.left) = (G.wks so l ls).map (G.rest P p) := by
  refine List.ext_getElem? fun i => ?_
  rw [List.getElem?_map, List.getElem?_map]
  by_cases hi : i < l.length
  · obtain ⟨s, a, x, h1, h2, h3⟩ := three_at hN hl hi
    rw [h3, G.wks_at so h1 h2, Option.map_some, Option.map_some, (h i s a x h1 h2 h3).1]
  · rw [List.getElem?_eq_none (by omega), List.getElem?_eq_none (by rw [G.wks_len so hl]; omega)]
    rfl

theorem C2.next (hG : G.Good l ls) (h : C2 so l ls (G.pl (G.out so (G.left l ls)).ids) p ws) (hN : ws.length = l.length) (hp : p < (G.left l ls).length) :
    ∃ (i : Nat) (k : Wk) (x : Dc) (t : List Dc), ws[i]? = some k ∧ k.left = x :: t ∧ G.lst so (ws.map (·.left)) 0 none = some (i, x) ∧ x.d < k.tab.length ∧
      ∀ la' lc', C2 so l ls (G.pl (G.out so (G.left l ls)).ids) (p + 1) (ws.set i ⟨la', lc', t, k.tb, k.tab.set x.d (p : Int)⟩) := by
  have hl := hG.right.1
  obtain ⟨i, li, x, h1, h2, h3, h4, h5, h6⟩ := (hG.run so).next hp
  have hi : i < l.length := by have := (List.getElem?_eq_some_iff.1 h1).1; rw [G.wks_len so hl] at this; exact this
  obtain ⟨s, a, k, g1, g2, g3⟩ := three_at hN hl hi
  have e := G.wks_at so g1 g2
  rw [h1] at e
  cases e
  obtain ⟨k1, k2⟩ := h i s a k g1 g2 g3
  have hM := (hG.right.2 i s a g1 g2).1
  have hd := ((G.mem_wk hM).1 h2).1
  refine ⟨i, k, x, _, g3, k1.trans h4, by rw [h.lefts hN hl]; exact h5, by rw [k2.len]; exact hd, fun la' lc' => ?_⟩
  intro j s' a' y f1 f2 f3
  by_cases e : i = j
  · subst e
    rw [g1] at f1
    rw [g2] at f2
    cases f1
    cases f2
    rw [List.getElem?_set_self (by have := (List.getElem?_eq_some_iff.1 g3).1; exact this)] at f3
    cases f3
    refine ⟨rfl, k2.step h2 h3 hd (fun z hz e => ?_) (fun z hz e => hG.same (List.mem_of_getElem? h1) h2 hz (e.trans h3.symm))⟩
    rw [((G.mem_wk hM).1 hz).2.2, ((G.mem_wk hM).1 h2).2.2, e]
  · rw [List.getElem?_set_ne e] at f3
    obtain ⟨m1, m2⟩ := h j s' a' y f1 f2 f3
    obtain ⟨n1, n2⟩ := h6 j _ (G.wks_at so f1 f2) (Ne.symm e)
    exact ⟨by rw [m1, n2], m2.same n1⟩
theorem C2.stop (hG : G.Good l ls) (h : C2 so l ls (G.pl (G.out so (G.left l ls)).ids) (G.left l ls).length ws) (hN : ws.length = l.length) : G.lst so (ws.map (·.left)) 0 none = none ∧ ws.map (·.tab) = G.tabs (G.out so (G.left l ls)).ids l ls := by
  have hl := hG.right.1
  refine ⟨by rw [h.lefts hN hl]; exact (hG.run so).stop, ?_⟩
  refine List.ext_getElem? fun i => ?_
  rw [List.getElem?_map]
  by_cases hi : i < l.length
  · obtain ⟨s, a, x, h1, h2, h3⟩ := three_at hN hl hi
    obtain ⟨hM, ha⟩ := hG.right.2 i s a h1 h2
    rw [h3, G.tabs_at _ h1 h2, Option.map_some, G.Tt.done hM ha (h i s a x h1 h2 h3).2 ((hG.run so).lt _ (List.mem_of_getElem? (G.wks_at so h1 h2)))]
  · rw [List.getElem?_eq_none (by omega), List.getElem?_eq_none (by rw [G.tabs_len _ hl]; omega)]
    rfl
end

/-- The tables, as they read. -/
theorem S2.tl {B wb cap : Nat} {w : World} {v8 : Value} {ws : List Wk} (h : S2 B w wb cap v8 ws) : Tl w v8 (ws.map (·.tab)) := by
  refine ⟨ws.map pts, ?_, by simp, fun i s t hs ht => ?_⟩
  · have := h.all
    rw [show (ws.map fun x => sv (pts x)) = (ws.map pts).map sv by simp] at this
    exact Gl.owned this
  · rw [List.getElem?_map] at hs ht
    obtain ⟨x, hx, rfl⟩ := Option.map_eq_some_iff.1 hs
    rw [hx] at ht
    cases ht
    exact Gl.owned (h.tabs x (List.mem_of_getElem? hx))

theorem Wo.set {B g : Nat} {w : World} {ws : List Wk} {cs : Array Value} {fr : Nat × Nat} (h : Wo B w ws) (hb : w.heap[g]? = some (.cells cs 89 fr)) (j : Nat) (u : Value) : Wo B (w.setCell ⟨g, j, none⟩ u) ws :=
  ⟨fun x hx => own_set (h.docs x hx) (fun k hk e => own_ne_box (h.docs x hx) hb (by decide) (by rw [hk, e])) u, fun x hx => own_set (h.tabs x hx) (fun k hk e => own_ne_box (h.tabs x hx) hb (by decide) (by rw [hk, e])) u, h.ap⟩
theorem at7_of {B g : Nat} {w0 u : World} {ws : List Wk} {x : Wk} {c0 c1 a b : Value} (hb : u.heap[g]? = some (.cells #[c0, c1] 89 (0, 0))) (hw : Wo B u (ws ++ [x])) (hbel : Below B w0 u) (hle : B ≤ u.heap.size) (hg : B ≤ g)
    (ha : a = .slice x.la x.left.length x.lc) (hb2 : b = .slice (some ⟨x.tb, 0, none⟩) x.tab.length x.tab.length) : At7 B w0 ((u.setCell ⟨g, 0, none⟩ a).setCell ⟨g, 1, none⟩ b) g ws x := by
  subst ha hb2
  refine ⟨?_, (hw.set hb 0 _).set (bset hb 0 _) 1 _, (hbel.setCell hg _).setCell hg _, by simpa using hle⟩
  simpa using bset (bset hb 0 (.slice x.la x.left.length x.lc)) 1 (.slice (some ⟨x.tb, 0, none⟩) x.tab.length x.tab.length)
end Go.Proofs.YtnahjaloodeicaaGreat

/-
  A segment that was read stays behind stores into a box of a segment: told apart by what the cells are. Rows of tables that are the call's own. No function of the program is named here.
-/
namespace Go.Proofs.YtnahjaloodeicaaGreat
set_option maxRecDepth 100000
open Go.RowKit Go.Deep

def Box (u : Value) : Prop := (∃ a n c, u = .slice a n c) ∨ ∃ b, u = .bool b
/-- The block g has a segment's cells alone. -/
def Bxk (w : World) (g : Nat) : Prop := ∀ (p : Addr) (u : Value), p.block = g → w.cell? p = some u → Box u
def Off (g : Nat) (w w' : World) : Prop := ∀ p : Addr, p.block ≠ g → w'.cell? p = w.cell? p
theorem off_set {g j : Nat} {w w' : World} (h : Off g w w') (u : Value) : Off g w (w'.setCell ⟨g, j, none⟩ u) := fun p hp => by
  rw [← h p hp]
  exact World.cell?_of_block (set_heap_ne (p := ⟨g, j, none⟩) hp u)
theorem off_five (w : World) (g : Nat) (a0 a1 a2 a3 a4 : Value) : Off g w (five w g a0 a1 a2 a3 a4) := off_set (off_set (off_set (off_set (off_set (fun _ _ => rfl) _) _) _) _) _

theorem add_block (x : Addr) (i : Nat) : (x.add i).block = x.block := by unfold Addr.add; split <;> rfl
section
variable {α : Type} {w w' : World} {g : Nat}
theorem Kl.off {f : α → List Value} {k : Nat} {v : Value} {l : List α} (h : Kl f k w v l) (hk : Bxk w g) (ho : Off g w w') (hf : ∀ y, ∃ u, (f y)[0]? = some u ∧ ¬ Box u) : Kl f k w' v l := by
  obtain ⟨a, cap, hv, hl, hm, hn, hc⟩ := h
  refine ⟨a, cap, hv, hl, hm, hn, fun x hx i y hi j u hu => ?_⟩
  obtain ⟨u0, h0, hb⟩ := hf y
  have c0 := hc x hx i y hi 0 u0 h0
  have hne : x.block ≠ g := fun e => hb (hk _ _ (by rw [add_block]; exact e) c0)
  rw [ho _ (by rw [add_block]; exact hne)]
  exact hc x hx i y hi j u hu
theorem Gl.off {f : α → Value} {v : Value} {l : List α} (h : Gl f w v l) (hk : Bxk w g) (ho : Off g w w') (hf : ∀ y, ¬ Box (f y)) : Gl f w' v l := by
  obtain ⟨a, cap, hv, hl, hm, hn, hc⟩ := h
  refine ⟨a, cap, hv, hl, hm, hn, fun x hx i y hi => ?_⟩
  have c0 := hc x hx i y hi
  rw [ho _ (fun e => hf y (hk _ _ e c0))]
  exact c0
theorem Sl.off {v : Value} {l : List Int} (h : Sl .i64 w v l) (hk : Bxk w g) (ho : Off g w w') : Sl .i64 w' v l := Il.sl (Gl.off (Il.of h) hk ho (fun y => by rintro (⟨_, _, _, h⟩ | ⟨_, h⟩) <;> cases h))
theorem Pl.off {v : Value} {l : List Pt} (h : Pl w v l) (hk : Bxk w g) (ho : Off g w w') : Pl w' v l := by
  obtain ⟨a, cap, hv, hl, hm, hn, hc⟩ := h
  refine ⟨a, cap, hv, hl, hm, hn, fun x hx i f hi => ?_⟩
  obtain ⟨dv, c0, c1, c2⟩ := hc x hx i f hi
  have hne : x.block ≠ g := fun e => by
    rcases hk _ _ (by rw [add_block]; exact e) c0 with ⟨_, _, _, h⟩ | ⟨_, h⟩ <;> cases h
  exact ⟨dv, by rw [ho _ (by rw [add_block]; exact hne)]; exact c0, by rw [ho _ (by rw [add_block]; exact hne)]; exact c1, c2.off hk ho⟩
theorem Sv.off {iv kv lv tv : Value} {s : Sg} (h : Sv w iv kv lv tv s) (hk : Bxk w g) (ho : Off g w w') : Sv w' iv kv lv tv s := by
  obtain ⟨h1, h2, h3, ps, h4, h5, h6⟩ := h
  refine ⟨h1.off hk ho (fun y => by rintro (⟨_, _, _, h⟩ | ⟨_, h⟩) <;> cases h), h2.off hk ho, h3.off hk ho, ps, h4.off hk ho (fun y => ⟨_, rfl, by rintro (⟨_, _, _, h⟩ | ⟨_, h⟩) <;> cases h⟩), h5, fun p hp => (h6 p hp).off hk ho⟩
end
theorem bxk_of {w : World} {g : Nat} {a b c d : Pts} {so : Bool} {T : TypeId} {fr : Nat × Nat} (h : w.heap[g]? = some (.cells #[sv a, sv b, sv c, sv d, .bool so] T fr)) : Bxk w g := fun p u hp hu => by
  obtain ⟨b', off, spot⟩ := p
  simp only at hp
  subst hp
  have hs := World.cell?_spot hu
  simp only at hs
  subst hs
  simp only [World.cell?, h] at hu
  match off, hu with
  | 0, hu => simp at hu; exact .inl ⟨_, _, _, hu.symm⟩
  | 1, hu => simp at hu; exact .inl ⟨_, _, _, hu.symm⟩
  | 2, hu => simp at hu; exact .inl ⟨_, _, _, hu.symm⟩
  | 3, hu => simp at hu; exact .inl ⟨_, _, _, hu.symm⟩
  | 4, hu => simp at hu; exact .inr ⟨_, hu.symm⟩
  | n + 5, hu => simp at hu

/-- Tables of the call's own. -/
def TlO (B : Nat) (w : World) (v : Value) (T : List (List Int)) : Prop := ∃ us : List Pts, w.ownsRow B 27 1 v us.length (us.map sv) ∧ us.length = T.length ∧ ∀ (i : Nat) (s : Pts) (l : List Int), us[i]? = some s → T[i]? = some l → w.ownsRow B 3 1 (sv s) l.length (l.map (Value.int .i64))
theorem TlO.tl {B : Nat} {w : World} {v : Value} {T : List (List Int)} (h : TlO B w v T) : Tl w v T := by
  obtain ⟨us, h1, h2, h3⟩ := h
  exact ⟨us, Gl.owned h1, h2, fun i s l hs hl => Gl.owned (h3 i s l hs hl)⟩
theorem TlO.mono {B B' : Nat} {w : World} {v : Value} {T : List (List Int)} (h : TlO B w v T) (hB : B' ≤ B) : TlO B' w v T := by
  obtain ⟨us, h1, h2, h3⟩ := h
  exact ⟨us, own_mono h1 hB, h2, fun i s l hs hl => own_mono (h3 i s l hs hl) hB⟩
theorem TlO.below {B : Nat} {w w' : World} {v : Value} {T : List (List Int)} (h : TlO B w v T) (hb : Below w.heap.size w w') : TlO B w' v T := by
  obtain ⟨us, h1, h2, h3⟩ := h
  exact ⟨us, own_below h1 hb, h2, fun i s l hs hl => own_below (h3 i s l hs hl) hb⟩
theorem TlO.set {B : Nat} {w : World} {v : Value} {T : List (List Int)} (h : TlO B w v T) {p : Addr} (hp : p.block < B) (u : Value) : TlO B (w.setCell p u) v T := by
  obtain ⟨us, h1, h2, h3⟩ := h
  exact ⟨us, own_set h1 (fun k hk e => by have := (h1.lt k hk).1; omega) u, h2, fun i s l hs hl => own_set (h3 i s l hs hl) (fun k hk e => by have := ((h3 i s l hs hl).lt k hk).1; omega) u⟩
theorem TlO.five {B g : Nat} {w : World} {v : Value} {T : List (List Int)} (h : TlO B w v T) (hp : g < B) (a0 a1 a2 a3 a4 : Value) : TlO B (five w g a0 a1 a2 a3 a4) v T := ((((h.set (p := ⟨g, 0, none⟩) hp _).set (p := ⟨g, 1, none⟩) hp _).set (p := ⟨g, 2, none⟩) hp _).set (p := ⟨g, 3, none⟩) hp _).set (p := ⟨g, 4, none⟩) hp _
theorem TlO.nil (B : Nat) (w : World) : TlO B w (.slice none 0 0) [] := ⟨[], World.ownsRow_nil _ _ _ _, rfl, fun i s l hs => by simp at hs⟩
theorem S2.tlo {B wb cap : Nat} {w : World} {v8 : Value} {ws : List Wk} (h : S2 B w wb cap v8 ws) : TlO B w v8 (ws.map (·.tab)) := by
  refine ⟨ws.map pts, ?_, by simp, fun i s t hs ht => ?_⟩
  · have := h.all
    rw [show (ws.map fun x => sv (pts x)) = (ws.map pts).map sv by simp] at this
    simpa using this
  · rw [List.getElem?_map] at hs ht
    obtain ⟨x, hx, rfl⟩ := Option.map_eq_some_iff.1 hs
    rw [hx] at ht
    cases ht
    exact h.tabs x (List.mem_of_getElem? hx)
end Go.Proofs.YtnahjaloodeicaaGreat
