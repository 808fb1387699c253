/-
  The contract of Carry.
-/
import Derived.Test.YtggojmnalmjapaaAlike10
namespace Go.Proofs.Ytggojmnalmjapaa
set_option maxRecDepth 100000
open Go.RowKit Go.Deep

theorem R.new_at (n : Int) (ts : List (List Int)) (was now : List (List Bool)) (h1 : R.alk ts was = true) (h2 : R.alk ts now = true) : ∃ m : Nat, m ≤ 64 ∧ L.new n = (List.range m).map (fun _ => true) ∧ R.carry n ts was now = (R.nums m).map fun d => !R.hits d ts was now := by
  by_cases h : n < 0 ∨ 64 < n
  · exact ⟨0, by omega, by rw [new_out h]; rfl, by rw [R.carry_out (by omega)]; rfl⟩
  · obtain ⟨k, rfl⟩ := Int.eq_ofNat_of_zero_le (show 0 ≤ n by omega)
    exact ⟨k, by omega, new_fill k (by omega), R.carry_in (by omega) h1 h2⟩
theorem far10 {w : World} {p q : Addr} {x : Value} (h : w.cell? q = some x) (hne : p.block ≠ q.block) (u : Value) : (w.setCell p u).cell? q = some x := by
  rw [World.cell?_of_block (w := w) (Below.heap_setCell w p u q.block (Ne.symm hne))]
  exact h

theorem madeB_nil (w w' : World) (h : Below w.heap.size w w') : Made w [] (.returned (.slice none 0 0)) w' := ⟨_, rfl, World.ownsRow_nil _ _ _ _, h⟩

set_option maxHeartbeats 4000000 in
theorem carry_any (n : Int) (tv wv nv : Value) (ts : List (List Int)) (was now : List (List Bool)) (w : World) (ht : Tl w tv ts) (hw : Bl w wv was) (hn : Bl w nv now) :
    Calls Try.prog 23 #[.int .i64 n, tv, wv, nv] w (Made w (R.carry n ts was now)) := by
  obtain ⟨a0, cap0, rfl, l0, m0, o0⟩ := ht.at
  obtain ⟨a1, cap1, rfl, l1, m1, -⟩ := hw.at
  obtain ⟨a2, cap2, rfl, l2, m2, -⟩ := hn.at
  obtain ⟨W, hW⟩ : ∃ W, W = (w.alloc (.cells #[.slice a1 was.length cap1] 35)).alloc (.cells #[.slice a2 now.length cap2] 35) := ⟨_, rfl⟩
  have bW : Below w.heap.size w W := by rw [hW]; exact below_all (below_alloc _ _) _
  have y0 : W.cell? ⟨w.heap.size, 0, none⟩ = some (.slice a1 was.length cap1) := by rw [hW]; simp [go_sem]
  have y1 : W.cell? ⟨w.heap.size + 1, 0, none⟩ = some (.slice a2 now.length cap2) := by rw [hW]; simp [go_sem]
  have sW : W.heap.size = w.heap.size + 2 := by rw [hW]; simp
  have HW := hide hW
  have HBW := hide bW
  have HSW := hide sW
  have HT := hide ht
  have HWS := hide hw
  have HNS := hide hn
  have tW := ht.below bW
  have wW := hw.below bW
  have nW := hn.below bW
  clear hW bW sW ht hw hn
  cases h1 : R.alk ts was with
  | false =>
    have HR : Hid (R.carry n ts was now = []) := hide (R.carry_out (.inr (.inr (.inl h1))))
    have CA := alike_any _ _ ts was W tW wW false h1
    clear h1 tW wW nW o0
    go_enter Try.func23, Try.ntmps23
    go_wp2_with fail
    rw [← unhide HW]
    refine CA.mono ?_
    rintro e w1 ⟨rfl, rfl⟩
    clear CA
    go_wp2
    go_ret
    rw [unhide HR]
    exact madeB_nil _ _ (unhide HBW)
  | true =>
    have CA := alike_any _ _ ts was W tW wW true h1
    cases h2 : R.alk ts now with
    | false =>
      have HR : Hid (R.carry n ts was now = []) := hide (R.carry_out (.inr (.inr (.inr h2))))
      have CB := alike_any _ _ ts now W tW nW false h2
      clear h1 h2 tW wW nW o0
      go_enter Try.func23, Try.ntmps23
      go_wp2_with fail
      rw [← unhide HW]
      refine CA.mono ?_
      rintro e w1 ⟨rfl, rfl⟩
      clear CA
      go_wp2_with fail
      refine CB.mono ?_
      rintro e w1 ⟨rfl, rfl⟩
      clear CB
      go_wp2
      go_ret
      rw [unhide HR]
      exact madeB_nil _ _ (unhide HBW)
    | true =>
      have CB := alike_any _ _ ts now W tW nW true h2
      have CN := new_any n W
      obtain ⟨m, hm, e1, e2⟩ := R.new_at n ts was now h1 h2
      rw [e1] at CN
      have HR := hide e2
      have HA1 := hide (R.alk_iff.1 h1)
      have HA2 := hide (R.alk_iff.1 h2)
      clear h1 h2 tW wW nW e1 e2
      go_enter Try.func23, Try.ntmps23
      go_wp2_with fail
      rw [← unhide HW]
      refine CA.mono ?_
      rintro e w1 ⟨rfl, rfl⟩
      clear CA
      go_wp2_with fail
      refine CB.mono ?_
      rintro e w1 ⟨rfl, rfl⟩
      clear CB
      rename World => W
      go_wp2_with fail
      refine CN.mono ?_
      rintro e w1 ⟨v1, rfl, O1, B1⟩
      obtain ⟨va, vc, hv, -, hvm, -, -⟩ := (Gl.owned O1).open
      rw [show ((List.range m).map fun _ => true).length = m by simp] at hv
      subst hv
      have x0 := cellK10 y0 B1
      have x1 := cellK10 y1 B1
      have BB := below_trans' (unhide HBW) B1
      have HO1 := hide O1
      clear CN O1 B1
      go_wp2
      go_loopw [29] (fun iv wr => ∃ (i : Nat) (L : List Bool), i ≤ ts.length ∧ iv = .int .i64 i ∧ Hid (L.length = m) ∧ Hid (R.Cst ts was now m i 0 L) ∧
          wr.ownsRow W.heap.size 4 1 (.slice va m vc) L.length (L.map Value.bool) ∧ wr.cell? ⟨w.heap.size, 0, none⟩ = some (.slice a1 was.length cap1) ∧ wr.cell? ⟨w.heap.size + 1, 0, none⟩ = some (.slice a2 now.length cap2) ∧ Below w.heap.size w wr) (fun iv _ => ts.length - (intOf iv).toNat)
      case atStart => exact ⟨0, _, Nat.zero_le _, rfl, hide (by simp), hide (R.Cst.start m), unhide HO1, x0, x1, BB⟩
      case round =>
        obtain ⟨i, L, hi, rfl, HL, HC, hown, q0, q1, hbel⟩ := hrel
        rename World => wo
        by_cases hlt : i < ts.length
        · obtain ⟨bt, ft, rfl, hbt, hct⟩ := o0 (by omega)
          obtain ⟨t, hti⟩ : ∃ x, ts[i]? = some x := ⟨_, List.getElem?_eq_getElem hlt⟩
          obtain ⟨a, hai⟩ : ∃ x, was[i]? = some x := ⟨_, List.getElem?_eq_getElem (by have := (unhide HA1).1; omega)⟩
          obtain ⟨b, hbi⟩ : ∃ x, now[i]? = some x := ⟨_, List.getElem?_eq_getElem (by have := (unhide HA2).1; omega)⟩
          have hta := (unhide HA1).2 i t a hti hai
          have htb := (unhide HA2).2 i t b hti hbi
          obtain ⟨xt, ct, c0, gt⟩ := hct i t hti
          have c1 := cell10 c0 hbel hbt
          obtain ⟨xt', ct', et, lt, mt, -, ot⟩ := gt.open
          simp only [Value.slice.injEq, true_and] at et
          obtain ⟨rfl, rfl⟩ := et
          have HTI := hide hti
          have HAI := hide hai
          have HBI := hide hbi
          have HTA := hide hta
          have HTB := hide htb
          have HGN : Hid (∀ g, (Value.slice va m vc).ownBlock = some g → W.heap.size ≤ g ∧ g < wo.heap.size) := hide (fun g hg => ⟨(hown.lt g hg).1, (hown.lt g hg).2⟩)
          have hwo := hbel.size
          have O2 := hide (hown.alloc (.cells #[.int .i64 (i : Int)] 3))
          have p0 := cellK10 q0 (below_alloc wo (.cells #[.int .i64 (i : Int)] 3))
          have p1 := cellK10 q1 (below_alloc wo (.cells #[.int .i64 (i : Int)] 3))
          have p2 : (wo.alloc (.cells #[.int .i64 (i : Int)] 3)).cell? ⟨wo.heap.size, 0, none⟩ = some (.int .i64 (i : Int)) := by simp [go_sem]
          have B2 := below_all hbel (.cells #[.int .i64 (i : Int)] 3)
          have HP := hide (And.intro p0 (And.intro p1 (And.intro p2 B2)))
          clear hti hai hbi hta htb gt c0 hct o0 hown p0 p1 p2 B2
          go_wp2
          go_loopw [37] (fun dv wr => ∃ (d : Nat) (L : List Bool), d ≤ t.length ∧ dv = .int .i64 d ∧ Hid (L.length = m) ∧ Hid (R.Cst ts was now m i d L) ∧
              wr.ownsRow W.heap.size 4 1 (.slice va m vc) L.length (L.map Value.bool) ∧ wr.cell? ⟨w.heap.size, 0, none⟩ = some (.slice a1 was.length cap1) ∧ wr.cell? ⟨w.heap.size + 1, 0, none⟩ = some (.slice a2 now.length cap2) ∧ wr.cell? ⟨wo.heap.size, 0, none⟩ = some (.int .i64 (i : Int)) ∧ Below w.heap.size w wr) (fun dv _ => t.length - (intOf dv).toNat)
          case atStart => exact ⟨0, L, Nat.zero_le _, rfl, HL, HC, unhide O2, (unhide HP).1, (unhide HP).2.1, (unhide HP).2.2.1, (unhide HP).2.2.2⟩
          case round =>
            clear O2 HP HL HC q0 q1 c1
            obtain ⟨d, L', hd, rfl, HL, HC, hown, q0, q1, q2, hbel2⟩ := hrel
            by_cases hdt : d < t.length
            · obtain ⟨bx, fx, rfl, hbx, hcx⟩ := ot (by omega)
              obtain ⟨x, hx⟩ : ∃ x, t[d]? = some x := ⟨_, List.getElem?_eq_getElem hdt⟩
              obtain ⟨p, hp⟩ : ∃ x, a[d]? = some x := ⟨_, List.getElem?_eq_getElem (by have := unhide HTA; omega)⟩
              obtain ⟨q, hq⟩ : ∃ x, b[d]? = some x := ⟨_, List.getElem?_eq_getElem (by have := unhide HTB; omega)⟩
              have c2 := cell10 (hcx d x hx) hbel2 hbx
              have hskip := R.Cst.skip (unhide HC) (unhide HTI) (unhide HAI) (unhide HBI) hx hp hq
              cases hr : R.inn x m with
              | false =>
                have HC2 := hide (hskip (.inl (by simpa [R.inn] using hr)))
                have CW := within_any x m wr false hr
                have HO := hide hown
                clear hr hskip hx hp hq hcx ot hown
                go_wp2_with fail
                refine CW.mono ?_
                rintro e w2 ⟨rfl, rfl⟩
                clear CW
                go_wp2
                go_roundw
                case rel => exact ⟨d + 1, L', by omega, by go_num, HL, HC2, unhide HO, q0, q1, q2, hbel2⟩
                case measure => simp [intOf]; omega
              | true =>
                have CW := within_any x m wr true hr
                have hxx : 0 ≤ x ∧ x < (m : Int) := by simpa [R.inn] using hr
                obtain ⟨k, rfl⟩ := Int.eq_ofNat_of_zero_le hxx.1
                have hkm : k < m := by omega
                have CC := cloC_any w.heap.size wo.heap.size (w.heap.size + 1) i d _ _ was now a b p q wr q0 q2 q1 ((unhide HWS).below hbel2) ((unhide HNS).below hbel2) (unhide HAI) (unhide HBI) hp hq
                have hkill := R.Cst.kill (unhide HC) (unhide HTI) (unhide HAI) (unhide HBI) k hx hp hq
                obtain ⟨r, hrr⟩ : ∃ r, (p && !q) = r := ⟨_, rfl⟩
                rw [hrr] at CC hskip hkill
                have HO := hide hown
                clear hr hxx hx hp hq hcx ot hrr
                cases r with
                | false =>
                  have HC2 := hide (hskip (.inr rfl))
                  clear hskip hkill hown
                  go_wp2_with fail
                  refine CW.mono ?_
                  rintro e w2 ⟨rfl, rfl⟩
                  clear CW
                  go_wp2_with fail
                  refine CC.mono ?_
                  rintro e w2 ⟨rfl, rfl⟩
                  clear CC
                  go_wp2
                  go_roundw
                  case rel => exact ⟨d + 1, L', by omega, by go_num, HL, HC2, unhide HO, q0, q1, q2, hbel2⟩
                  case measure => simp [intOf]; omega
                | true =>
                  have HC2 := hide (hkill rfl hkm)
                  rcases id hown.2 with ⟨e, h0⟩ | ⟨g, cap', cur, e, hbg, hg, hnc, hcm, hcs, htk⟩
                  · have := unhide HL; omega
                  simp only [Value.slice.injEq] at e
                  obtain ⟨rfl, -, rfl⟩ := e
                  obtain ⟨y, hy⟩ : ∃ y, L'[k]? = some y := ⟨_, List.getElem?_eq_getElem (by have := unhide HL; omega)⟩
                  have c3 := own_at hown (unhide HL).symm hy
                  have fz := own_froz hown (unhide HL).symm k
                  have hgn := unhide HGN g rfl
                  have hws := unhide HSW
                  have O9 := hide (own_put hown (unhide HL).symm k false)
                  have z0 := hide (far10 (p := ⟨g, k, none⟩) q0 (show g ≠ w.heap.size by omega) (.bool false))
                  have z1 := hide (far10 (p := ⟨g, k, none⟩) q1 (show g ≠ w.heap.size + 1 by omega) (.bool false))
                  have z2 := hide (far10 (p := ⟨g, k, none⟩) q2 (show g ≠ wo.heap.size by omega) (.bool false))
                  have B9 := hide (hbel2.setCell (p := ⟨g, k, none⟩) (show w.heap.size ≤ g by omega) (.bool false))
                  clear hskip hkill hown hg htk hcs hcm hnc hy hgn hws hbg
                  go_wp2_with fail
                  refine CW.mono ?_
                  rintro e w2 ⟨rfl, rfl⟩
                  clear CW
                  go_wp2_with fail
                  refine CC.mono ?_
                  rintro e w2 ⟨rfl, rfl⟩
                  clear CC
                  go_wp2
                  go_roundw
                  case rel => exact ⟨d + 1, L'.set k false, by omega, by go_num, hide (by rw [List.length_set]; exact unhide HL), HC2, unhide O9, unhide z0, unhide z1, unhide z2, unhide B9⟩
                  case measure => simp [intOf]; omega
            · have hdl : d = t.length := by omega
              have HC2 : Hid (R.Cst ts was now m (i + 1) 0 L') := hide (R.Cst.table (by rw [← hdl]; exact unhide HC) (unhide HTI))
              have HO := hide hown
              clear ot hown hdl
              go_wp2
              go_roundw
              case rel => exact ⟨i + 1, L', by omega, by go_num, HL, HC2, unhide HO, q0, q1, hbel2⟩
              case measure => simp [intOf]; omega
        · have hE := R.Cst.done (unhide HC) (by omega)
          have HO := hide hown
          clear hown o0
          go_wp2
          go_ret
          rw [unhide HR, ← hE]
          exact ⟨_, rfl, own_mono (unhide HO) (unhide HBW).size, hbel⟩
end Go.Proofs.Ytggojmnalmjapaa
