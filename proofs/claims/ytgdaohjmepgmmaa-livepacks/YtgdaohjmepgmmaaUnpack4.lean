/-
  The contract of Unpack, the program's.
-/
import Derived.Test.YtgdaohjmepgmmaaPack4
import Derived.Test.YtgdaohjmepgmmaaLessB4
namespace Go.Proofs.Ytgdaohjmepgmmaa
open Go.RowKit Go.Deep

namespace L
theorem unpack_err {b : List Int} {n p e : Int} (h : V.get b 0 = (n, p, e)) (he : e ≠ 0 ∨ 64 < n) : unpack b = ([], 5) := by
  unfold unpack
  rw [h]
  simp only
  rw [if_pos he]
theorem unpack_off {b : List Int} {n p : Int} (h : V.get b 0 = (n, p, 0)) (hn : ¬ 64 < n) (hu : ¬ pack (unl b n.toNat) = b) : unpack b = ([], 5) := by
  unfold unpack
  rw [h]
  simp only
  rw [if_neg (by simp; omega), if_neg hu]
theorem unpack_on {b : List Int} {n p : Int} (h : V.get b 0 = (n, p, 0)) (hn : ¬ 64 < n) (hu : pack (unl b n.toNat) = b) : unpack b = (unl b n.toNat, 0) := by
  unfold unpack
  rw [h]
  simp only
  rw [if_neg (by simp; omega), if_pos hu]
theorem pack_unl_len (b : List Int) {m : Nat} (hm : m ≤ 64) : (pack (unl b m)).length = 1 + width m := by
  unfold pack
  rw [unl_len, if_pos hm]
  simp [bytes_len, unl_len]
  omega
end L

/-- What Unpack ends in. -/
def UnEnd (w : World) (r : List Bool × Int) (e : Ending) (w' : World) : Prop :=
  ∃ v', e = .returned (.tuple #[v', .int .i64 r.2]) ∧ w'.ownsRow w.heap.size 4 1 v' r.1.length (r.1.map Value.bool) ∧ Below w.heap.size w w'

theorem un_end {w w' : World} {r : List Bool × Int} {X : List Bool} {n : Int} {v' : Value} (h : r = (X, n)) (ho : w'.ownsRow w.heap.size 4 1 v' X.length (X.map Value.bool)) (hb : Below w.heap.size w w') : UnEnd w r (.returned (.tuple #[v', .int .i64 n])) w' := by
  subst h
  exact ⟨v', rfl, ho, hb⟩

theorem and_one {d : Int} (h0 : 0 ≤ d) (h1 : d ≤ 255) : (bits .and .u8 d 1 == 1) = decide (d % 2 = 1) := by
  obtain ⟨a, rfl⟩ := Int.eq_ofNat_of_zero_le h0
  have e := (bits_nat .u8 8 (by decide) wraps_u8 a 1 (by omega) (by decide)).1
  rw [Nat.and_one_is_mod] at e
  have e' : bits .and .u8 (a : Int) 1 = ((a % 2 : Nat) : Int) := e
  rw [e', Bool.eq_iff_iff]
  simp only [beq_iff_eq, decide_eq_true_eq]
  omega
theorem bit_go {c : Int} (k : Nat) (h : 0 ≤ c ∧ c ≤ 255) : (bits .and .u8 (c / 2 ^ k) 1 == 1) = L.bit c k := by
  have hp : (0 : Int) < 2 ^ k := Int.pow_pos (by decide)
  have h0 : 0 ≤ c / 2 ^ k := Int.ediv_nonneg h.1 (by omega)
  have h1 : c / 2 ^ k ≤ c := Int.ediv_le_self _ h.1
  exact and_one h0 (by omega)

set_option maxHeartbeats 1000000 in
theorem unpack_any (v : Value) (b : List Int) (w : World) (h : Sl .u8 w v b) (hb : V.Byt b) :
    Calls Try.prog 25 #[v] w (UnEnd w (L.unpack b)) := by
  have hs := h
  have hlen := h.len
  obtain ⟨a, cap, rfl, hl, hm, hna, ho⟩ := h.open
  clear h
  obtain ⟨r, hr⟩ : ∃ r, V.get b 0 = r := ⟨_, rfl⟩
  obtain ⟨n, p, e⟩ := r
  by_cases hbad : e ≠ 0 ∨ 64 < n
  · rw [L.unpack_err hr hbad]
    have HR := hide hr
    clear hr ho
    by_cases he : e = 0
    · have hn : 64 < n := by omega
      subst he
      clear hbad
      go_enter Try.func25, Try.ntmps25
      go_wp2_with fail
      refine (get_b _ b 0 _ hs hb (n, p, 0) (unhide HR)).mono ?_
      rintro e w1 ⟨rfl, B1⟩
      go_wp2
      go_ret2
      exact ⟨_, rfl, World.ownsRow_nil _ _ _ _, B1⟩
    · have he1 : (e != 0) = true := by simpa using he
      clear hbad he
      go_enter Try.func25, Try.ntmps25
      go_wp2_with fail
      refine (get_b _ b 0 _ hs hb (n, p, e) (unhide HR)).mono ?_
      rintro e w1 ⟨rfl, B1⟩
      go_wp2
      go_ret2
      exact ⟨_, rfl, World.ownsRow_nil _ _ _ _, B1⟩
  · have he : e = 0 := by omega
    subst he
    have hn : ¬ 64 < n := by omega
    obtain ⟨hn0, hp1, r, hbr⟩ := L.get_few hb hr rfl (by omega)
    subst hp1
    obtain ⟨m, rfl⟩ := Int.eq_ofNat_of_zero_le hn0
    have hm64 : m ≤ 64 := by omega
    have hbl : 1 ≤ b.length := by rw [hbr]; simp
    have hwd : L.width m ≤ 8 := by unfold L.width; omega
    clear hbad hn0
    obtain ⟨W, hW⟩ : ∃ W, W = L.width m := ⟨_, rfl⟩
    by_cases hwid : b.length = 1 + W
    · have HR := hide hr
      have HW := hide hW
      have hne : ((b.length : Int) - 1 != (W : Int)) = false := by simp; omega
      have hmk := run_make_row' (P := Try.prog) 22 4 (.bool false) 1 Try.underlying22 Try.info4' rfl .i64 .i64 m (by omega) (by omega)
      have HWI := hide hwid
      clear hr hbr hW hn hwid
      go_enter Try.func25, Try.ntmps25
      go_wp2_with fail
      refine (get_b _ b 0 _ hs hb ((m : Int), 1, 0) (unhide HR)).mono ?_
      rintro e w1 ⟨rfl, B1⟩
      go_wp2_with fail
      refine (width_any m (by omega) _).mono ?_
      rw [← unhide HW]
      rintro e w2 ⟨rfl, hw2⟩
      subst hw2
      have S2 := hs.below B1
      clear hs
      go_wp2
      go_loopw [33] (fun iv wr => ∃ (j : Nat) (X : List Bool), j ≤ m ∧ iv = .int .i64 j ∧ X.length = m ∧ Fill (fun i => L.bit (b.getD (1 + i / 8) 0) (i % 8)) X j ∧
          wr.ownsRow w2.heap.size 4 1 (.slice (some ⟨w2.heap.size, 0, none⟩) m m) X.length (X.map Value.bool) ∧ Below w2.heap.size w2 wr) (fun iv _ => m - (intOf iv).toNat)
      case atStart => exact ⟨0, List.replicate m false, Nat.zero_le _, rfl, by simp, (fun i hi => by omega), made_own w2 _ false m (by unfold maxLen; omega), below_alloc _ _⟩
      case round =>
        obtain ⟨j, X, hj, rfl, hX, hF, hown, hbel⟩ := hrel
        have HX := hide hX
        have HF := hide hF
        clear hX hF hmk
        by_cases hlt : j < m
        · have hj8 : 1 + j / 8 < b.length := by have h1 := unhide HW; have h2 := unhide HWI; unfold L.width at h1; omega
          obtain ⟨ba, fa, rfl, la2, ka⟩ := ho (by omega)
          obtain ⟨c, hc⟩ : ∃ c, c = b.getD (1 + j / 8) 0 := ⟨_, rfl⟩
          have la3 : ba < w2.heap.size := Nat.lt_of_lt_of_le la2 B1.size
          have c1 : wr.cell? ⟨ba, fa + (1 + j / 8), none⟩ = some (.int .u8 c) := (hbel.cell (p := ⟨ba, fa + (1 + j / 8), none⟩) la3).trans ((B1.cell (p := ⟨ba, fa + (1 + j / 8), none⟩) la2).trans (by rw [hc]; exact ka _ hj8))
          have hcb : 0 ≤ c ∧ c ≤ 255 := by
            apply hb
            rw [hc]
            simp [List.getD, List.getElem?_eq_getElem hj8]
          have hz := own_froz hown (unhide HX).symm j
          obtain ⟨q, hq⟩ : ∃ q, X[j]? = some q := ⟨X[j]'(by rw [unhide HX]; exact hlt), List.getElem?_eq_getElem _⟩
          have c3 := own_at hown (unhide HX).symm hq
          have HC := hide hc
          have hm8 : j % 8 < 8 := Nat.mod_lt _ (by omega)
          clear hc ka ho hq
          go_wp2
          go_roundw
          case rel =>
            have hG : L.bit (b.getD (1 + j / 8) 0) (j % 8) = (bits .and .u8 (c / 2 ^ (j % 8)) 1 == 1) := by rw [bit_go _ hcb, unhide HC]
            have hF2 := Fill.set (unhide HF) (by rw [unhide HX]; exact hlt)
            have hO2 := own_put hown (unhide HX).symm j (L.bit (b.getD (1 + j / 8) 0) (j % 8))
            refine ⟨j + 1, X.set j (L.bit (b.getD (1 + j / 8) 0) (j % 8)), by omega, by go_num, by simp [unhide HX], hF2, ?_, hbel.setCell (Nat.le_refl _) _⟩
            rw [hG] at hO2 ⊢
            exact hO2
          case measure => simp [intOf]; omega
        · have hXu : X = L.unl b m := Fill.done (fun i hi => (unhide HF) i (by omega)) (unhide HX)
          have HXU := hide hXu
          have S3 := S2.below hbel
          clear ho S2 hXu HF
          go_wp2_with fail
          refine (pack_any _ X _ (Gl.owned hown)).mono ?_
          rintro e w3 ⟨v3, rfl, hown3, hb3⟩
          have S4 := S3.below hb3
          have O4 := own_below hown hb3
          have B4 := B1.trans ((hbel.trans (hb3.mono hbel.size)).mono B1.size)
          have P4 := Sl.owned hown3
          obtain ⟨ap, cp, rfl, -⟩ := id P4
          clear hown3 hb3 S3 hown hbel
          go_wp2_with fail
          refine (allb_any _ _ b (L.pack X) _ S4 P4).mono ?_
          rintro e w5 ⟨rfl, n5, hw5⟩
          have O5 : w5.ownsRow w.heap.size 4 1 (.slice (some ⟨w2.heap.size, 0, none⟩) m m) X.length (X.map Value.bool) := by rw [hw5]; exact own_mono O4 B1.size
          have B5 : Below w.heap.size w w5 := by rw [hw5]; exact below_dr B4 n5
          clear S4 P4 O4 B4 hw5
          by_cases hok : b = L.pack X
          · have hd : decide (b = L.pack X) = true := by simpa using hok
            have hu := L.unpack_on (unhide HR) (by omega) (by rw [Int.toNat_natCast, ← unhide HXU]; exact hok.symm)
            rw [Int.toNat_natCast, ← unhide HXU] at hu
            have HU := hide hu
            rw [hd]
            clear hok hd hu
            go_wp2
            go_ret2
            exact un_end (unhide HU) O5 B5
          · have hd : decide (b = L.pack X) = false := by simpa using hok
            have hu := L.unpack_off (unhide HR) (by omega) (by rw [Int.toNat_natCast, ← unhide HXU]; exact fun e => hok e.symm)
            have HU := hide hu
            rw [hd]
            clear hok hd hu
            go_wp2
            go_ret2
            exact un_end (unhide HU) (World.ownsRow_nil _ _ _ _) B5
    · rw [L.unpack_off hr hn (by intro hx; have := congrArg List.length hx; rw [Int.toNat_natCast, L.pack_unl_len b hm64] at this; omega)]
      have HR := hide hr
      have HW := hide hW
      have hne : ((b.length : Int) - 1 != (W : Int)) = true := by rw [bne_iff_ne]; omega
      clear hr ho hbr hW hn
      go_enter Try.func25, Try.ntmps25
      go_wp2_with fail
      refine (get_b _ b 0 _ hs hb ((m : Int), 1, 0) (unhide HR)).mono ?_
      rintro e w1 ⟨rfl, B1⟩
      go_wp2_with fail
      refine (width_any m (by omega) _).mono ?_
      rw [← unhide HW]
      rintro e w2 ⟨rfl, hw2⟩
      subst hw2
      go_wp2
      go_ret2
      exact ⟨_, rfl, World.ownsRow_nil _ _ _ _, B1⟩
end Go.Proofs.Ytgdaohjmepgmmaa
