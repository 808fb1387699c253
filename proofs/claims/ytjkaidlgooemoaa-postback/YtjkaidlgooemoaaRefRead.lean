/-
  The contract of the document's Read: it answers what the program's does.
-/
import Derived.Test.YtjkaidlgooemoaaRefRise
import Derived.Test.YtjkaidlgooemoaaRead
namespace Go.Proofs.Ytjkaidlgooemoaa
open Go.RowKit

theorem least_app (pre : List Int) (y : Int) : least (pre ++ [y]) (pre.length + 1) = y + 1 := by simp [least]

set_option maxHeartbeats 1000000 in
theorem refRead_in (v : Value) (l : List Int) (p : Nat) (w : World) (h : Sl .u8 w v l) (hb : V.Byt l) (hp : p ≤ l.length) (hll : l.length ≤ 4294967296) :
    Calls Try.prog 62 #[v, .int .i64 (p : Int)] w fun e w' => ReadEnd w (V.read l p) e w' := by
  obtain ⟨i0, hi, hz0, hz1, hz2⟩ := info_parts Try.info3
  cases hg : V.getH 5 (l.drop p) with
  | none =>
    rw [read_none hp (readP_none hg)]
    have HG := hide (get_none hp hg)
    clear hg
    go_enter Try.func62, Try.ntmps62
    go_wp2_with fail
    refine (refGet_any _ l _ _ h hb hll).mono ?_
    rintro e w1 ⟨rfl, B1⟩
    rw [unhide HG]
    clear h
    go_wp2
    go_ret3
    exact readEnd_nil B1
  | some x =>
    obtain ⟨c, k⟩ := x
    obtain ⟨g1, g2, g3, g4, g5⟩ := V.put_getH (hb.drop p) hg
    unfold V.Top at g3
    simp only [List.length_drop] at g5
    have HG := hide (get_some hp hg)
    have HH := hide hg
    clear hg g1
    by_cases hc : 2000 < c
    · rw [read_none hp (readP_many (unhide HH) hc)]
      go_enter Try.func62, Try.ntmps62
      go_wp2_with fail
      refine (refGet_any _ l _ _ h hb hll).mono ?_
      rintro e w1 ⟨rfl, B1⟩
      rw [unhide HG]
      clear h
      go_wp2
      go_ret3
      exact readEnd_nil B1
    · obtain ⟨n, rfl⟩ := Int.eq_ofNat_of_zero_le g2
      have hpg : V.readP l p = V.readN n 0 l (p + k) := readP_go (unhide HH) hc
      have HP := hide hpg
      clear hpg
      go_enter Try.func62, Try.ntmps62
      go_wp2_with fail
      refine (refGet_any _ l _ _ h hb hll).mono ?_
      rintro e w1 ⟨rfl, B1⟩
      rw [unhide HG]
      have hs := h
      obtain ⟨a, cap, rfl, hl, hm, hna, ho⟩ := h.open
      clear h ho
      go_wp2
      go_loopw [1, 9, 10] (fun pv lv iv wr => ∃ (j q : Nat) (m : Int) (pre : List Int), j ≤ n ∧ iv = .int .i64 j ∧ q ≤ l.length ∧ pv = .int .i64 q ∧ m = least pre j ∧ 0 ≤ m ∧ m ≤ 34359738368 ∧
        V.readN n 0 l (p + k) = V.onto pre (V.readN (n - j) m l q) ∧ pre.length = j ∧ wr.ownsRow w.heap.size 3 1 lv pre.length (pre.map (Value.int .i64)) ∧ Below w.heap.size w wr) (fun _ _ iv _ => n - (intOf iv).toNat)
      case atStart => exact ⟨0, p + k, 0, [], Nat.zero_le _, rfl, by omega, by go_num, rfl, by omega, by omega, (V.onto_nil _).symm, rfl, World.ownsRow_nil _ _ _ _, B1⟩
      case round =>
        obtain ⟨j, q, m, pre, hj, rfl, hq, rfl, hme, hm0, hm1, heq, hpl, hown, hbel⟩ := hrel
        have HE := hide heq
        have HL := hide hpl
        have HM := hide hme
        have hpl2 : pre.length ≤ 3000 := by omega
        have hplj : pre.length ≤ j := by omega
        have hplj2 : j ≤ pre.length := by omega
        have hBs := hbel.size
        clear heq hpl hme B1
        by_cases hlt : j < n
        · have hnj : n - j = n - (j + 1) + 1 := by omega
          have HNJ := hide hnj
          clear hnj
          -- what the document's Get answers here
          cases hg : V.getH 5 (l.drop q) with
          | none =>
            have HN := hide (get_none hq hg)
            have HB := hide (V.onto_bad (pre := pre) (c := n - (j + 1)) (m := m) hg)
            clear hg
            have bad : V.read l p = ([], 0, 5) := read_none hp (by rw [unhide HP, unhide HE, unhide HNJ, unhide HB])
            have BAD := hide bad
            clear bad
            by_cases hj0 : j = 0
            · have t0 : ¬ 0 < j := by omega
              clear hj0
              go_wp2_with fail
              refine (refGet_any _ l _ _ (hs.below hbel) hb hll).mono ?_
              rintro e w2 ⟨rfl, hb2⟩
              rw [unhide HN]
              have B2 := hbel.trans (hb2.mono hBs)
              clear hown hbel
              go_wp2
              go_ret3
              rw [unhide BAD]
              exact readEnd_nil B2
            · have t0 : 0 < j := by omega
              clear hj0
              go_wp2_with fail
              refine (refGet_any _ l _ _ (hs.below hbel) hb hll).mono ?_
              rintro e w2 ⟨rfl, hb2⟩
              rw [unhide HN]
              have B2 := hbel.trans (hb2.mono hBs)
              obtain ⟨a2, c2, e2, l2, m2, n2, o2⟩ := ((Sl.owned hown).below hb2).open
              subst e2
              obtain ⟨b2, f2, rfl, -, d2⟩ := o2 (by omega)
              have d3 := d2 (j - 1) (by omega)
              have d4 : w2.cell? ⟨b2, f2 + (j - 1), none⟩ = some (.int .i64 (m - 1)) := by
                rw [d3, unhide HM, least, if_neg (by omega)]
                simp
              clear hown hbel o2 d2 d3 n2
              go_wp2
              go_ret3
              rw [unhide BAD]
              exact readEnd_nil B2
          | some y =>
            obtain ⟨s, i⟩ := y
            obtain ⟨s1, s2, s3, s4, s5⟩ := V.put_getH (hb.drop q) hg
            unfold V.Top at s3
            simp only [List.length_drop] at s5
            have HN := hide (get_some hq hg)
            have HGG := hide hg
            clear hg s1
            by_cases hj0 : j = 0
            · have hmz : m = 0 := by rw [unhide HM, hj0]; rfl
              have hms : m + s = s := by omega
              have HMS := hide hms
              have ns : ¬ 34359738367 - m < s := by omega
              have st := V.onto_step (pre := pre) (c := n - (j + 1)) (unhide HGG) ns
              have ST := hide st
              have NS := hide ns
              have t0 : ¬ 0 < j := by omega
              clear st ns hms hmz hj0
              go_wp2_with fail
              refine (refGet_any _ l _ _ (hs.below hbel) hb hll).mono ?_
              rintro e w2 ⟨rfl, hb2⟩
              rw [unhide HN]
              have B2 := hbel.trans (hb2.mono hBs)
              have O2 := own_below hown hb2
              have hBs2 := B2.size
              clear hown hbel
              go_wp2_with (at_builtin; refine append_one rfl _ _ 37 rfl Try.underlying37 hi hz0 hz1 hz2 rfl rfl rfl O2 B2 hBs2 (by omega) (by decide) ?_; intro v1 w3 hown2 hbel2)
              go_roundw
              case rel =>
                rw [← unhide HMS] at hown2
                refine ⟨j + 1, q + i, m + s + 1, pre ++ [m + s], by omega, by go_num, by omega, by go_num, by rw [← unhide HL, least_app], by omega, by have := unhide NS; omega, ?_, by simp [HL.out], hown2, hbel2⟩
                rw [unhide HE, unhide HNJ, unhide ST]
              case measure => simp [intOf]; omega
            · have t0 : 0 < j := by omega
              clear hj0
              by_cases hs' : 34359738367 - m < s
              · have bad : V.read l p = ([], 0, 5) := read_none hp (by rw [unhide HP, unhide HE, unhide HNJ, V.onto_high (unhide HGG) hs'])
                have BAD := hide bad
                clear bad
                go_wp2_with fail
                refine (refGet_any _ l _ _ (hs.below hbel) hb hll).mono ?_
                rintro e w2 ⟨rfl, hb2⟩
                rw [unhide HN]
                have B2 := hbel.trans (hb2.mono hBs)
                obtain ⟨a2, c2, e2, l2, m2, n2, o2⟩ := ((Sl.owned hown).below hb2).open
                subst e2
                obtain ⟨b2, f2, rfl, -, d2⟩ := o2 (by omega)
                have d3 := d2 (j - 1) (by omega)
                have d4 : w2.cell? ⟨b2, f2 + (j - 1), none⟩ = some (.int .i64 (m - 1)) := by
                  rw [d3, unhide HM, least, if_neg (by omega)]
                  simp
                clear hown hbel o2 d2 d3 n2
                go_wp2
                go_ret3
                rw [unhide BAD]
                exact readEnd_nil B2
              · have st := V.onto_step (pre := pre) (c := n - (j + 1)) (unhide HGG) hs'
                have ST := hide st
                have hms : m + s = s + (m - 1) + 1 := by omega
                have HMS := hide hms
                have NS := hide hs'
                have hsm : s + (m - 1) + 1 ≤ 34359738367 := by omega
                clear st hms hs'
                go_wp2_with fail
                refine (refGet_any _ l _ _ (hs.below hbel) hb hll).mono ?_
                rintro e w2 ⟨rfl, hb2⟩
                rw [unhide HN]
                have B2 := hbel.trans (hb2.mono hBs)
                have O2 := own_below hown hb2
                have hBs2 := B2.size
                obtain ⟨a2, c2, e2, l2, m2, n2, o2⟩ := (Sl.owned O2).open
                subst e2
                obtain ⟨b2, f2, rfl, -, d2⟩ := o2 (by omega)
                have d3 := d2 (j - 1) (by omega)
                have d4 : w2.cell? ⟨b2, f2 + (j - 1), none⟩ = some (.int .i64 (m - 1)) := by
                  rw [d3, unhide HM, least, if_neg (by omega)]
                  simp
                clear hown hbel o2 d2 d3 n2
                go_wp2_with (at_builtin; refine append_one rfl _ _ 37 rfl Try.underlying37 hi hz0 hz1 hz2 rfl rfl rfl O2 B2 hBs2 (by omega) (by decide) ?_; intro v1 w3 hown2 hbel2)
                go_roundw
                case rel =>
                  rw [← unhide HMS] at hown2
                  refine ⟨j + 1, q + i, m + s + 1, pre ++ [m + s], by omega, by go_num, by omega, by go_num, by rw [← unhide HL, least_app], by omega, by have := unhide NS; omega, ?_, by simp [HL.out], hown2, hbel2⟩
                  rw [unhide HE, unhide HNJ, unhide ST]
                case measure => simp [intOf]; omega
        · have hjn : j = n := by omega
          have HJ := hide hjn
          clear hjn
          go_wp2
          go_ret3
          rw [read_some hp (r := pre) (q := q) (by rw [unhide HP, unhide HE, unhide HJ, Nat.sub_self]; simp [V.readN, V.onto])]
          exact ⟨_, rfl, hown, hbel⟩

set_option maxHeartbeats 400000 in
theorem refRead_any (v : Value) (l : List Int) (x : Int) (w : World) (h : Sl .u8 w v l) (hb : V.Byt l) (hll : l.length ≤ 4294967296) :
    Calls Try.prog 62 #[v, .int .i64 x] w fun e w' => ReadEnd w (V.read l x) e w' := by
  by_cases hx : x < 0 ∨ (l.length : Int) < x
  · rw [read_arg hx]
    have HG := hide (get_arg hx)
    clear hx
    go_enter Try.func62, Try.ntmps62
    go_wp2_with fail
    refine (refGet_any _ l _ _ h hb hll).mono ?_
    rintro e w1 ⟨rfl, B1⟩
    rw [unhide HG]
    clear h
    go_wp2
    go_ret3
    exact readEnd_nil B1
  · obtain ⟨p, rfl⟩ := Int.eq_ofNat_of_zero_le (show 0 ≤ x by omega)
    exact refRead_in v l p w h hb (by omega) hll
end Go.Proofs.Ytjkaidlgooemoaa
