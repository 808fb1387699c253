/-
  The contract of Read: what it answers of whatever bytes, from whatever place on.
-/
import Derived.Test.YtjkaidlgooemoaaGet
import Derived.Test.YtjkaidlgooemoaaRise
namespace Go.Proofs.Ytjkaidlgooemoaa
open Go.RowKit

theorem read_arg {l : List Int} {x : Int} (h : x < 0 ∨ (l.length : Int) < x) : V.read l x = ([], 0, 1) := if_pos h
theorem read_of {l : List Int} {p : Nat} (hp : p ≤ l.length) : V.read l p = match V.readP l p with | none => ([], 0, 5) | some (r, q) => (r, (q : Int), 0) := by
  unfold V.read
  rw [if_neg (by omega)]
  rfl
theorem read_none {l : List Int} {p : Nat} (hp : p ≤ l.length) (h : V.readP l p = none) : V.read l p = ([], 0, 5) := by rw [read_of hp, h]
theorem read_some {l : List Int} {p : Nat} {r : List Int} {q : Nat} (hp : p ≤ l.length) (h : V.readP l p = some (r, q)) : V.read l p = (r, (q : Int), 0) := by rw [read_of hp, h]
theorem readP_none {l : List Int} {p : Nat} (hg : V.getH 5 (l.drop p) = none) : V.readP l p = none := by rw [V.readP, hg]
theorem readP_many {l : List Int} {p k : Nat} {c : Int} (hg : V.getH 5 (l.drop p) = some (c, k)) (hc : 2000 < c) : V.readP l p = none := by rw [V.readP, hg]; exact if_pos hc
theorem readP_go {l : List Int} {p k : Nat} {c : Int} (hg : V.getH 5 (l.drop p) = some (c, k)) (hc : ¬ 2000 < c) : V.readP l p = V.readN c.toNat 0 l (p + k) := by rw [V.readP, hg]; exact if_neg hc

/-- What Read leaves: the list in new memory, the place, the error. -/
def ReadEnd (w : World) (r : List Int × Int × Int) (e : Ending) (w' : World) : Prop :=
  ∃ v', e = .returned (.tuple #[v', .int .i64 r.2.1, .int .i64 r.2.2]) ∧ w'.ownsRow w.heap.size 3 1 v' r.1.length (r.1.map (Value.int .i64)) ∧ Below w.heap.size w w'

theorem readEnd_nil {w w' : World} {p e : Int} (hb : Below w.heap.size w w') : ReadEnd w ([], p, e) (.returned (.tuple #[.slice none 0 0, .int .i64 p, .int .i64 e])) w' :=
  ⟨_, rfl, World.ownsRow_nil _ _ _ _, hb⟩

set_option maxHeartbeats 1000000 in
theorem read_in (v : Value) (l : List Int) (p : Nat) (w : World) (h : Sl .u8 w v l) (hb : V.Byt l) (hp : p ≤ l.length) :
    Calls Try.prog 71 #[v, .int .i64 (p : Int)] w fun e w' => ReadEnd w (V.read l p) e w' := by
  obtain ⟨i0, hi, hz0, hz1, hz2⟩ := info_parts Try.info3
  have hll := h.len
  cases hg : V.getH 5 (l.drop p) with
  | none =>
    rw [read_none hp (readP_none hg)]
    have hget := get_none hp hg
    go_enter Try.func71, Try.ntmps71
    go_wp2_with fail
    refine (get_any _ l _ _ h hb).mono ?_
    rintro e w1 ⟨rfl, rfl⟩
    rw [hget]
    clear hget hg h
    go_wp2
    go_ret3
    exact readEnd_nil (Below.refl _ _)
  | some x =>
    obtain ⟨c, k⟩ := x
    obtain ⟨g1, g2, g3, g4, g5⟩ := V.put_getH (hb.drop p) hg
    unfold V.Top at g3
    simp only [List.length_drop] at g5
    have hget := get_some hp hg
    have HG : Hid (V.get l p = (c, (p : Int) + k, 0)) := hget
    have HH : Hid (V.getH 5 (l.drop p) = some (c, k)) := hg
    clear hget hg g1
    by_cases hc : 2000 < c
    · rw [read_none hp (readP_many HH.out hc)]
      go_enter Try.func71, Try.ntmps71
      go_wp2_with fail
      refine (get_any _ l _ _ h hb).mono ?_
      rintro e w1 ⟨rfl, rfl⟩
      rw [HG.out]
      clear h
      go_wp2
      go_ret3
      exact readEnd_nil (Below.refl _ _)
    · obtain ⟨n, rfl⟩ := Int.eq_ofNat_of_zero_le g2
      have hpg : V.readP l p = V.readN n 0 l (p + k) := readP_go HH.out hc
      have HP : Hid (V.readP l p = V.readN n 0 l (p + k)) := hpg
      clear hpg
      go_enter Try.func71, Try.ntmps71
      go_wp2_with fail
      refine (get_any _ l _ _ h hb).mono ?_
      rintro e w1 ⟨rfl, rfl⟩
      rw [HG.out]
      have hs := h
      obtain ⟨a, cap, rfl, hl, hm, hna, ho⟩ := h.open
      clear h ho
      have HSL := hs
      clear hs
      go_wp2
      go_loopw [8, 10, 11, 28] (fun pv lv mv iv wr => ∃ (j q : Nat) (m : Int) (pre : List Int), j ≤ n ∧ iv = .int .i64 j ∧ q ≤ l.length ∧ pv = .int .i64 q ∧ mv = .int .i64 m ∧ 0 ≤ m ∧ m ≤ 34359738368 ∧
        V.readN n 0 l (p + k) = V.onto pre (V.readN (n - j) m l q) ∧ pre.length = j ∧ wr.ownsRow w1.heap.size 3 1 lv pre.length (pre.map (Value.int .i64)) ∧ Below w1.heap.size w1 wr) (fun _ _ _ iv _ => n - (intOf iv).toNat)
      case atStart => exact ⟨0, p + k, 0, [], Nat.zero_le _, rfl, by omega, by go_num, rfl, by omega, by omega, (V.onto_nil _).symm, rfl, World.ownsRow_nil _ _ _ _, Below.refl _ _⟩
      case round =>
        obtain ⟨j, q, m, pre, hj, rfl, hq, rfl, rfl, hm0, hm1, heq, hpl, hown, hbel⟩ := hrel
        have HE : Hid (V.readN n 0 l (p + k) = V.onto pre (V.readN (n - j) m l q)) := heq
        have HL : Hid (pre.length = j) := hpl
        have hpl2 : pre.length ≤ 3000 := by omega
        have hBs := hbel.size
        clear heq hpl
        by_cases hlt : j < n
        · have hnj : n - j = n - (j + 1) + 1 := by omega
          cases hg : V.getH 5 (l.drop q) with
          | none =>
            have HN : Hid (V.getH 5 (l.drop q) = none) := hg
            have HNJ : Hid (n - j = n - (j + 1) + 1) := hnj
            clear hg hnj
            go_wp2_with fail
            refine (get_any _ l _ _ (HSL.below hbel) hb).mono ?_
            rintro e w2 ⟨rfl, rfl⟩
            rw [get_none hq HN.out]
            go_wp2
            go_ret3
            rw [read_none hp (by rw [HP.out, HE.out, HNJ.out, V.onto_bad HN.out])]
            exact readEnd_nil hbel
          | some y =>
            obtain ⟨s, i⟩ := y
            obtain ⟨s1, s2, s3, s4, s5⟩ := V.put_getH (hb.drop q) hg
            unfold V.Top at s3
            simp only [List.length_drop] at s5
            have HN : Hid (V.getH 5 (l.drop q) = some (s, i)) := hg
            have HNJ : Hid (n - j = n - (j + 1) + 1) := hnj
            clear hg hnj s1
            by_cases hs : 34359738367 - m < s
            · go_wp2_with fail
              refine (get_any _ l _ _ (HSL.below hbel) hb).mono ?_
              rintro e w2 ⟨rfl, rfl⟩
              rw [get_some hq HN.out]
              go_wp2
              go_ret3
              rw [read_none hp (by rw [HP.out, HE.out, HNJ.out, V.onto_high HN.out hs])]
              exact readEnd_nil hbel
            · go_wp2_with fail
              refine (get_any _ l _ _ (HSL.below hbel) hb).mono ?_
              rintro e w2 ⟨rfl, rfl⟩
              rw [get_some hq HN.out]
              go_wp2_with (at_builtin; refine append_one rfl _ _ 37 rfl Try.underlying37 hi hz0 hz1 hz2 rfl rfl rfl hown hbel hBs (by omega) (by decide) ?_; intro v1 w3 hown2 hbel2)
              go_roundw
              case rel =>
                refine ⟨j + 1, q + i, m + s + 1, pre ++ [m + s], by omega, by go_num, by omega, by go_num, by go_num, by omega, by omega, ?_, by simp [HL.out], hown2, hbel2⟩
                rw [HE.out, HNJ.out, V.onto_step HN.out (by omega)]
              case measure => simp [intOf]; omega
        · have hjn : j = n := by omega
          have HJ : Hid (j = n) := hjn
          clear hjn
          go_wp2
          go_ret3
          rw [read_some hp (r := pre) (q := q) (by rw [HP.out, HE.out, HJ.out, Nat.sub_self]; simp [V.readN, V.onto])]
          exact ⟨_, rfl, hown, hbel⟩

set_option maxHeartbeats 400000 in
theorem read_any (v : Value) (l : List Int) (x : Int) (w : World) (h : Sl .u8 w v l) (hb : V.Byt l) :
    Calls Try.prog 71 #[v, .int .i64 x] w fun e w' => ReadEnd w (V.read l x) e w' := by
  by_cases hx : x < 0 ∨ (l.length : Int) < x
  · rw [read_arg hx]
    have hget := get_arg hx
    have HG : Hid (V.get l x = (0, 0, 1)) := hget
    clear hget hx
    go_enter Try.func71, Try.ntmps71
    go_wp2_with fail
    refine (get_any _ l _ _ h hb).mono ?_
    rintro e w1 ⟨rfl, rfl⟩
    rw [HG.out]
    go_wp2
    go_ret3
    exact readEnd_nil (Below.refl _ _)
  · obtain ⟨p, rfl⟩ := Int.eq_ofNat_of_zero_le (show 0 ≤ x by omega)
    exact read_in v l p w h hb (by omega)
end Go.Proofs.Ytjkaidlgooemoaa
