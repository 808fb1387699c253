/-
  The contract of the document's own Carry.
-/
import Derived.Test.YtggojmnalmjapaaAlike10
namespace Go.Proofs.Ytggojmnalmjapaa
set_option maxRecDepth 100000
open Go.RowKit Go.Deep

set_option maxHeartbeats 4000000 in
theorem rcarry_any (n : Int) (tv wv nv : Value) (ts : List (List Int)) (was now : List (List Bool)) (w : World) (ht : Tl w tv ts) (hw : Bl w wv was) (hn : Bl w nv now) :
    Calls Try.prog 24 #[.int .i64 n, tv, wv, nv] w (Made w (R.carry n ts was now)) := by
  obtain ⟨i0, hi0, hz0, hz1, hz2⟩ := info_parts Try.info4'
  obtain ⟨a0, cap0, rfl, l0, m0, o0⟩ := ht.at
  obtain ⟨a1, cap1, rfl, l1, m1, o1⟩ := hw.at
  obtain ⟨a2, cap2, rfl, l2, m2, o2⟩ := hn.at
  clear ht hw hn
  have HO0 := hide o0
  have HO1 := hide o1
  have HO2 := hide o2
  clear o0 o1 o2
  by_cases h0 : n < 0
  · have HR : Hid (R.carry n ts was now = []) := hide (R.carry_out (.inl h0))
    go_enter Try.func24, Try.ntmps24
    go_wp2
    go_ret
    rw [unhide HR]
    exact ⟨_, rfl, World.ownsRow_nil _ _ _ _, Below.refl _ _⟩
  by_cases h1 : 64 < n
  · have HR : Hid (R.carry n ts was now = []) := hide (R.carry_out (.inr (.inl h1)))
    go_enter Try.func24, Try.ntmps24
    go_wp2
    go_ret
    rw [unhide HR]
    exact ⟨_, rfl, World.ownsRow_nil _ _ _ _, Below.refl _ _⟩
  by_cases hl1 : ts.length = was.length
  case neg =>
    have HR : Hid (R.carry n ts was now = []) := hide (R.carry_out (.inr (.inr (.inl (R.alk_len hl1)))))
    have hb1 : ((was.length : Int) != (ts.length : Int)) = true := by simp; omega
    clear hl1
    go_enter Try.func24, Try.ntmps24
    go_wp2
    go_ret
    rw [unhide HR]
    exact ⟨_, rfl, World.ownsRow_nil _ _ _ _, Below.refl _ _⟩
  case pos =>
  have hb1 : ((was.length : Int) != (ts.length : Int)) = false := by simp [hl1]
  have HL1 := hide hl1
  clear hl1
  by_cases hl2 : ts.length = now.length
  case neg =>
    have HR : Hid (R.carry n ts was now = []) := hide (R.carry_out (.inr (.inr (.inr (R.alk_len hl2)))))
    have hb2 : ((now.length : Int) != (ts.length : Int)) = true := by simp; omega
    clear hl2
    go_enter Try.func24, Try.ntmps24
    go_wp2
    go_ret
    rw [unhide HR]
    exact ⟨_, rfl, World.ownsRow_nil _ _ _ _, Below.refl _ _⟩
  case pos =>
  have hb2 : ((now.length : Int) != (ts.length : Int)) = false := by simp [hl2]
  have HL2 := hide hl2
  clear hl2
  obtain ⟨m, rfl⟩ := Int.eq_ofNat_of_zero_le (show 0 ≤ n by omega)
  have hm : m ≤ 64 := by omega
  go_enter Try.func24, Try.ntmps24
  go_wp2
  go_loopw [9] (fun iv wr => ∃ i : Nat, i ≤ ts.length ∧ iv = .int .i64 i ∧ Hid (∀ (j : Nat) t l, j < i → ts[j]? = some t → was[j]? = some l → t.length = l.length) ∧ Hid (∀ (j : Nat) t l, j < i → ts[j]? = some t → now[j]? = some l → t.length = l.length) ∧ Below w.heap.size w wr) (fun iv _ => ts.length - (intOf iv).toNat)
  case atStart => exact ⟨0, Nat.zero_le _, rfl, hide (fun j t l hj => by omega), hide (fun j t l hj => by omega), Below.refl _ _⟩
  case round =>
    obtain ⟨i, hi, rfl, HS1, HS2, hbel⟩ := hrel
    by_cases hlt : i < ts.length
    · have hlt1 : i < was.length := by have := unhide HL1; omega
      have hlt2 : i < now.length := by have := unhide HL2; omega
      obtain ⟨bt, ft, rfl, hbt, hct⟩ := unhide HO0 (by omega)
      obtain ⟨bw, fw, rfl, hbw, hcw⟩ := unhide HO1 (by omega)
      obtain ⟨bn, fn, rfl, hbn, hcn⟩ := unhide HO2 (by omega)
      obtain ⟨t, hti⟩ : ∃ x, ts[i]? = some x := ⟨_, List.getElem?_eq_getElem hlt⟩
      obtain ⟨a, hai⟩ : ∃ x, was[i]? = some x := ⟨_, List.getElem?_eq_getElem hlt1⟩
      obtain ⟨b, hbi⟩ : ∃ x, now[i]? = some x := ⟨_, List.getElem?_eq_getElem hlt2⟩
      obtain ⟨xt, ct, k0, -⟩ := hct i t hti
      obtain ⟨xa, ca, k1, -⟩ := hcw i a hai
      obtain ⟨xb, cb, k2, -⟩ := hcn i b hbi
      have c0 := cell10 k0 hbel hbt
      have c1 := cell10 k1 hbel hbw
      have c2 := cell10 k2 hbel hbn
      have HTI := hide hti
      have HAI := hide hai
      have HBI := hide hbi
      clear hct hcw hcn k0 k1 k2 hti hai hbi
      by_cases h3 : t.length = a.length
      · have h3' : ((a.length : Int) != (t.length : Int)) = false := by simp [h3]
        have H3 := hide h3
        clear h3
        by_cases h4 : t.length = b.length
        · have h4' : ((b.length : Int) != (t.length : Int)) = false := by simp [h4]
          have H4 := hide h4
          clear h4
          go_wp2
          go_quiet (fail)
          go_wp2
          go_roundw
          case rel =>
            refine ⟨i + 1, by omega, by go_num, hide (fun j t' l' hj g1 g2 => ?_), hide (fun j t' l' hj g1 g2 => ?_), below_dr hbel _⟩
            · by_cases e : j = i
              · subst e
                rw [unhide HTI] at g1
                rw [unhide HAI] at g2
                cases g1
                cases g2
                exact unhide H3
              · exact unhide HS1 j t' l' (by omega) g1 g2
            · by_cases e : j = i
              · subst e
                rw [unhide HTI] at g1
                rw [unhide HBI] at g2
                cases g1
                cases g2
                exact unhide H4
              · exact unhide HS2 j t' l' (by omega) g1 g2
          case measure => simp [intOf]; omega
        · have h4' : ((b.length : Int) != (t.length : Int)) = true := by simp; omega
          have HR : Hid (R.carry (m : Int) ts was now = []) := hide (R.carry_out (.inr (.inr (.inr (R.alk_not (unhide HTI) (unhide HBI) h4)))))
          clear h4
          go_wp2
          go_quiet (fail)
          go_wp2
          go_ret
          rw [unhide HR]
          exact ⟨_, rfl, World.ownsRow_nil _ _ _ _, below_dr hbel _⟩
      · have h3' : ((a.length : Int) != (t.length : Int)) = true := by simp; omega
        have HR : Hid (R.carry (m : Int) ts was now = []) := hide (R.carry_out (.inr (.inr (.inl (R.alk_not (unhide HTI) (unhide HAI) h3)))))
        clear h3
        go_wp2
        go_quiet (fail)
        go_wp2
        go_ret
        rw [unhide HR]
        exact ⟨_, rfl, World.ownsRow_nil _ _ _ _, below_dr hbel _⟩
    · have hA1 : R.alk ts was = true := R.alk_iff.2 ⟨unhide HL1, fun j t l g1 g2 => unhide HS1 j t l (by have := (List.getElem?_eq_some_iff.1 g1).1; omega) g1 g2⟩
      have hA2 : R.alk ts now = true := R.alk_iff.2 ⟨unhide HL2, fun j t l g1 g2 => unhide HS2 j t l (by have := (List.getElem?_eq_some_iff.1 g1).1; omega) g1 g2⟩
      have HR := hide (R.carry_in hm hA1 hA2)
      have HA1 := hide (R.alk_iff.1 hA1)
      have HA2 := hide (R.alk_iff.1 hA2)
      rename World => wa
      have HBA := hide hbel
      clear hA1 hA2 HS1 HS2
      go_wp2
      go_loopw [10, 11] (fun ov dv wr => ∃ (d : Nat) (X : List Bool), d ≤ m ∧ dv = .int .i64 d ∧ X.length = d ∧ Hid (X = (R.nums d).map fun j => !R.hits j ts was now) ∧ wr.ownsRow w.heap.size 4 1 ov X.length (X.map Value.bool) ∧ Below w.heap.size w wr) (fun _ dv _ => m - (intOf dv).toNat)
      case atStart => exact ⟨0, [], Nat.zero_le _, rfl, rfl, hide rfl, World.ownsRow_nil _ _ _ _, unhide HBA⟩
      case round =>
        clear hbel
        obtain ⟨d, X, hd, rfl, hX, HX, hown, hbel⟩ := hrel
        have hxl : X.length ≤ 64 := by omega
        have HXL := hide hX
        have hBs := hbel.size
        clear hX
        by_cases hdm : d < m
        · have HO := hide hown
          clear hown
          go_wp2
          go_loop [12, 13] (fun cv iv => ∃ (i : Nat) (c : Bool), i ≤ ts.length ∧ iv = .int .i64 i ∧ cv = .bool c ∧ Hid (R.Dst ts was now d i 0 c)) (fun _ iv => ts.length - (intOf iv).toNat)
          case atStart => exact ⟨0, true, Nat.zero_le _, rfl, rfl, hide (R.Dst.start d)⟩
          case round =>
            clear hlt
            obtain ⟨i, c, hi, rfl, rfl, HD⟩ := hrel
            by_cases hlt : i < ts.length
            · have hlt1 : i < was.length := by have := unhide HL1; omega
              have hlt2 : i < now.length := by have := unhide HL2; omega
              obtain ⟨bt, ft, rfl, hbt, hct⟩ := unhide HO0 (by omega)
              obtain ⟨bw, fw, rfl, hbw, hcw⟩ := unhide HO1 (by omega)
              obtain ⟨bn, fn, rfl, hbn, hcn⟩ := unhide HO2 (by omega)
              obtain ⟨t, hti⟩ : ∃ x, ts[i]? = some x := ⟨_, List.getElem?_eq_getElem hlt⟩
              obtain ⟨a, hai⟩ : ∃ x, was[i]? = some x := ⟨_, List.getElem?_eq_getElem hlt1⟩
              obtain ⟨b, hbi⟩ : ∃ x, now[i]? = some x := ⟨_, List.getElem?_eq_getElem hlt2⟩
              have hta := (unhide HA1).2 i t a hti hai
              have htb := (unhide HA2).2 i t b hti hbi
              obtain ⟨xt, ct, k0, g0⟩ := hct i t hti
              obtain ⟨xa, ca, k1, g1⟩ := hcw i a hai
              obtain ⟨xb, cb, k2, g2⟩ := hcn i b hbi
              have c0 := cell10 k0 hbel hbt
              have c1 := cell10 k1 hbel hbw
              have c2 := cell10 k2 hbel hbn
              obtain ⟨xt', ct', e0, lt0, mt0, -, r0⟩ := g0.open
              obtain ⟨xa', ca', e1, lt1, mt1, -, r1⟩ := g1.open
              obtain ⟨xb', cb', e2, lt2, mt2, -, r2⟩ := g2.open
              simp only [Value.slice.injEq, true_and] at e0 e1 e2
              obtain ⟨rfl, rfl⟩ := e0
              obtain ⟨rfl, rfl⟩ := e1
              obtain ⟨rfl, rfl⟩ := e2
              have HTI := hide hti
              have HAI := hide hai
              have HBI := hide hbi
              have HTA := hide hta
              have HTB := hide htb
              have HR0 := hide r0
              have HR1 := hide r1
              have HR2 := hide r2
              clear hct hcw hcn k0 k1 k2 g0 g1 g2 hti hai hbi hta htb r0 r1 r2
              go_wp2
              go_loop [12, 14] (fun cv kv => ∃ (k : Nat) (c : Bool), k ≤ t.length ∧ kv = .int .i64 k ∧ cv = .bool c ∧ Hid (R.Dst ts was now d i k c)) (fun _ kv => t.length - (intOf kv).toNat)
              case atStart => exact ⟨0, c, Nat.zero_le _, rfl, rfl, HD⟩
              case round =>
                clear HD
                obtain ⟨k, c, hk, rfl, rfl, HD⟩ := hrel
                by_cases hkt : k < t.length
                · have hka : k < a.length := by have := unhide HTA; omega
                  have hkb : k < b.length := by have := unhide HTB; omega
                  obtain ⟨px, sx, rfl, hpx, zx⟩ := unhide HR0 (by omega)
                  obtain ⟨pa, sa, rfl, hpa, za⟩ := unhide HR1 (by omega)
                  obtain ⟨pb, sb, rfl, hpb, zb⟩ := unhide HR2 (by omega)
                  obtain ⟨x, hx⟩ : ∃ x, t[k]? = some x := ⟨_, List.getElem?_eq_getElem hkt⟩
                  obtain ⟨p, hp⟩ : ∃ x, a[k]? = some x := ⟨_, List.getElem?_eq_getElem hka⟩
                  obtain ⟨q, hq⟩ : ∃ x, b[k]? = some x := ⟨_, List.getElem?_eq_getElem hkb⟩
                  have v0 := cell10 (zx k x hx) hbel hpx
                  have v1 := cell10 (za k p hp) hbel hpa
                  have v2 := cell10 (zb k q hq) hbel hpb
                  have hst := R.Dst.doc (unhide HD) (unhide HTI) (unhide HAI) (unhide HBI) hx hp hq
                  clear zx za zb hx hp hq
                  by_cases hxd : x = (d : Int)
                  · have hb3 : (x == (d : Int)) = true := by simpa using hxd
                    cases p with
                    | true =>
                      cases q with
                      | false =>
                        rw [if_pos ⟨hxd, rfl, rfl⟩] at hst
                        have HD2 := hide hst
                        clear hst hxd
                        go_wp2
                        go_round
                        case rel => exact ⟨k + 1, false, by omega, by go_num, rfl, HD2⟩
                        case measure => simp [intOf]; omega
                      | true =>
                        rw [if_neg (fun h => by cases h.2.2)] at hst
                        have HD2 := hide hst
                        clear hst hxd
                        go_wp2
                        go_round
                        case rel => exact ⟨k + 1, c, by omega, by go_num, rfl, HD2⟩
                        case measure => simp [intOf]; omega
                    | false =>
                      rw [if_neg (fun h => by cases h.2.1)] at hst
                      have HD2 := hide hst
                      clear hst hxd
                      go_wp2
                      go_round
                      case rel => exact ⟨k + 1, c, by omega, by go_num, rfl, HD2⟩
                      case measure => simp [intOf]; omega
                  · have hb3 : (x == (d : Int)) = false := by simpa using hxd
                    rw [if_neg (fun h => hxd h.1)] at hst
                    have HD2 := hide hst
                    clear hst hxd
                    go_wp2
                    go_round
                    case rel => exact ⟨k + 1, c, by omega, by go_num, rfl, HD2⟩
                    case measure => simp [intOf]; omega
                · have hkl : k = t.length := by omega
                  have HD2 : Hid (R.Dst ts was now d (i + 1) 0 c) := hide (R.Dst.table (by rw [← hkl]; exact unhide HD) (unhide HTI))
                  clear hkl
                  go_wp2
                  go_round
                  case rel => exact ⟨i + 1, c, by omega, by go_num, rfl, HD2⟩
                  case measure => simp [intOf]; omega
            · have hE := R.Dst.done (unhide HD) (by omega)
              have HE := hide hE
              have hown := unhide HO
              clear hE
              go_wp2_with (at_builtin; refine append_oneG (f := Value.bool) (y := c) rfl _ _ 22 rfl Try.underlying22 hi0 hz0 hz1 hz2 rfl (fun _ => rfl) rfl rfl hown hbel hBs (by omega) (by decide) ?_; intro v1 w1 hown1 hbel1)
              go_roundw
              case rel =>
                refine ⟨d + 1, X ++ [c], by omega, by go_num, by simp [unhide HXL], hide ?_, hown1, hbel1⟩
                rw [unhide HX, unhide HE, R.nums, R.nums, List.range_succ, List.map_append, List.map_append]
                rfl
              case measure => simp [intOf]; omega
        · have hdl : d = m := by omega
          have hF := unhide HX
          rw [hdl] at hF
          have HF := hide hF
          have HO := hide hown
          clear hF hdl hown
          go_wp2
          go_ret
          rw [unhide HR, ← unhide HF]
          exact ⟨_, rfl, unhide HO, hbel⟩
end Go.Proofs.Ytggojmnalmjapaa
