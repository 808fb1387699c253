/-
  The contracts of common and Pack, the program's.
-/
import Derived.Test.YtgiefkeophobhaaMay7
import Derived.Test.YtgiefkeophobhaaPlainPack7
import Derived.Lib.AppendStr
namespace Go.Proofs.Ytgiefkeophobhaa
open Go.RowKit

/-- 'out = append(out, text...)', out a row of bytes that the call itself made. -/
theorem append_str {P : Program} {ops : Array Oper} {rest : List Oper} {o : Oper} {a : Act} {Q : Exit → Act → World → Prop} {w0 wr : World} (hgd : o.guard = none) (s x : Operand) (t u : TypeId)
    (ho : o.op = .call { callee := .builtin .append, args := #[s, x], argTypes := #[t, u] }) {B : Nat} {e : TypeId} {i : TypeInfo}
    (ht : P.underlying t = some (.slice e)) (hu : P.underlying u = some .string) (hi : P.info? e = some i) (hz : i.zero = some (.int .u8 0)) (hsize : i.size = 1) (hby : i.bytes = 1)
    {pre : List Int} {v : Value} {y : ByteArray} (hs : a.eval s = v) (hx : a.eval x = .string y)
    (hown : wr.ownsRow B e 1 v pre.length (pre.map (Value.int .u8))) (hbel : Below B w0 wr) (hB : B ≤ wr.heap.size) (hlen : pre.length + y.size ≤ 4294967296)
    (h : ∀ v' w', w'.ownsRow B e 1 v' (pre ++ D.nums y).length ((pre ++ D.nums y).map (Value.int .u8)) → Below B w0 w' → wpList P ops Q rest (a.put o.dst v') w') :
    wpList P ops Q (o :: rest) a wr := by
  refine Lib.wpList_append_own_string _ hgd s x t u ho B e i ht hu hi hz hsize hby v pre.length _ hs hown y hx (by unfold maxLen; omega) (by omega) hB ?_
  intro v' w1 hown' hg _
  have e1 : Lib.strCells y = (D.nums y).map (Value.int .u8) := by simp [Lib.strCells, D.nums]
  refine h v' w1 ?_ (hbel.grown hg hB fun j hj => (hown.lt j hj).1)
  rw [e1] at hown'
  rw [List.length_append, D.nums_len, List.map_append]
  exact hown'

theorem com_step {a b : ByteArray} {k : Nat} (h1 : k < a.size) (h2 : k < b.size) (ht : a.data.toList.take k = b.data.toList.take k) (he : a[k] = b[k]) : a.data.toList.take (k + 1) = b.data.toList.take (k + 1) := by
  rw [take_snoc_b a k h1, take_snoc_b b k h2, ht, he]
theorem com_end {a b : ByteArray} {k : Nat} (ha : k ≤ a.size) (hb : k ≤ b.size) (ht : a.data.toList.take k = b.data.toList.take k) (hn : ∀ (h1 : k < a.size) (h2 : k < b.size), a[k] ≠ b[k]) : D.cm a b = k := by
  refine D.com_is (by simpa using ha) (by simpa using hb) ht fun x y hx hy => ?_
  obtain ⟨g1, rfl⟩ := List.getElem?_eq_some_iff.1 hx
  obtain ⟨g2, rfl⟩ := List.getElem?_eq_some_iff.1 hy
  exact hn (by simpa using g1) (by simpa using g2)

theorem Try.index_str (s : ByteArray) (k : Nat) (h : k < s.size) (w : World) :
    (Instr.index 9 (.string s) (.int .i64 (k : Int))).run Try.prog w = .ok (.int .u8 (s[k].toNat : Int)) w := by
  rw [run_index_string w 9 s .i64 (k : Int) Try.underlying9, dif_pos (by omega)]
  rfl

set_option maxHeartbeats 2000000 in
theorem common_any (a b : ByteArray) (w : World) (ha : a.size ≤ maxLen) (r : Nat) (hr : D.cm a b = r) :
    Calls Try.prog 37 #[.string a, .string b] w fun e w' => e = .returned (.int .i64 (r : Int)) ∧ Below w.heap.size w w' := by
  unfold maxLen at ha
  have HR := hide hr
  clear hr
  go_enter Try.func37, Try.ntmps37
  go_wp2
  go_loopw [5] (fun iv wr => ∃ k : Nat, k ≤ a.size ∧ k ≤ b.size ∧ iv = .int .i64 k ∧ Below w.heap.size w wr ∧ Hid (a.data.toList.take k = b.data.toList.take k)) (fun iv _ => a.size - (intOf iv).toNat)
  case atStart => exact ⟨0, Nat.zero_le _, Nat.zero_le _, rfl, Below.refl _ _, rfl⟩
  case round =>
    obtain ⟨k, hka, hkb, rfl, hbel, HT⟩ := hrel
    by_cases h1 : k < a.size
    · have g1 : decide ((k : Int) < (a.size : Int)) = true := by simp; omega
      by_cases h2 : k < b.size
      · have g2 : decide ((k : Int) < (b.size : Int)) = true := by simp; omega
        have i1 := Try.index_str a k h1
        have i2 := Try.index_str b k h2
        by_cases he : a[k] = b[k]
        · have HS := hide (com_step h1 h2 (unhide HT) he)
          obtain ⟨x, hx⟩ : ∃ x, (a[k].toNat : Int) = x := ⟨_, rfl⟩
          have hy : (b[k].toNat : Int) = x := by rw [← he]; exact hx
          rw [hx] at i1
          rw [hy] at i2
          have ge : (x == x) = true := by simp
          clear hx hy he
          go_wp2
          go_quiet (fail)
          go_wp2
          go_roundw
          case rel => exact ⟨k + 1, by omega, by omega, by go_num, below_dr hbel _, unhide HS⟩
          case measure => simp [intOf]; omega
        · have HS := hide (com_end hka hkb (unhide HT) fun _ _ => he)
          obtain ⟨x, hx⟩ : ∃ x, (a[k].toNat : Int) = x := ⟨_, rfl⟩
          obtain ⟨y, hy⟩ : ∃ y, (b[k].toNat : Int) = y := ⟨_, rfl⟩
          have ge : (x == y) = false := by
            rw [beq_eq_false_iff_ne, ← hx, ← hy]
            intro e
            exact he (UInt8.toNat_inj.1 (by omega))
          rw [hx] at i1
          rw [hy] at i2
          clear hx hy he
          go_wp2
          go_quiet (fail)
          go_wp2
          go_ret
          exact ⟨ret_int (by rw [← unhide HR, unhide HS]), below_dr hbel _⟩
      · have g2 : decide ((k : Int) < (b.size : Int)) = false := by simp; omega
        have HS := hide (com_end hka hkb (unhide HT) fun _ h => absurd h h2)
        go_wp2
        go_quiet (fail)
        go_wp2
        go_ret
        exact ⟨ret_int (by rw [← unhide HR, unhide HS]), below_dr hbel _⟩
    · have g1 : decide ((k : Int) < (a.size : Int)) = false := by simp; omega
      have HS := hide (com_end hka hkb (unhide HT) fun h _ => absurd h h1)
      go_wp2
      go_quiet (fail)
      go_wp2
      go_ret
      exact ⟨ret_int (by rw [← unhide HR, unhide HS]), below_dr hbel _⟩

theorem put_b (n : Int) (w : World) (h0 : 0 ≤ n) (h1 : n ≤ 1000) (zs : List Int) (hz : V.put n = zs) :
    Calls Try.prog 36 #[.int .i64 n] w fun e w' => ∃ v', e = .returned v' ∧ w'.ownsRow w.heap.size 5 1 v' zs.length (zs.map (Value.int .u8)) ∧ Below w.heap.size w w' := by
  have := put_any n w
  rw [V.putA_in ⟨h0, by omega⟩, hz] at this
  exact this

theorem drop_nums (x : ByteArray) (c : Nat) : D.nums (x.extract c x.size) = (D.nums x).drop c := by
  unfold D.nums
  rw [ByteArray.data_extract, Array.toList_extract]
  have e : x.data.toList.length = x.size := by simp
  rw [← List.map_drop]
  congr 1
  rw [List.extract_eq_take_drop, List.take_of_length_le (by simp)]

set_option maxHeartbeats 4000000 in
theorem pack_any (v : Value) (l : List ByteArray) (w : World) (h : Gl .string w v l) (zr : List Int) (hr : D.pack l = zr) :
    Calls Try.prog 24 #[v] w fun e w' => ∃ v', e = .returned v' ∧ w'.ownsRow w.heap.size 5 1 v' zr.length (zr.map (Value.int .u8)) ∧ Below w.heap.size w w' := by
  obtain ⟨i5, hi5, hz0, hz1, hz2⟩ := info_parts Try.info5
  obtain ⟨a, cap, hv, hl, hm, hna, ho⟩ := h.open
  cases hmy : D.may l with
  | false =>
    have HM := hide hmy
    have HR : Hid (zr = []) := by show _ = _; rw [← hr]; unfold D.pack; rw [hmy]; rfl
    clear hr hmy ho
    subst hv
    go_enter Try.func24, Try.ntmps24
    go_wp2_with fail
    refine (may_any _ _ _ h _ (unhide HM)).mono ?_
    rintro e w1 ⟨rfl, rfl⟩
    go_wp2
    go_ret
    refine ⟨_, rfl, ?_, Below.refl _ _⟩
    rw [unhide HR]
    exact World.ownsRow_nil _ _ _ _
  | true =>
    have HM := hide hmy
    have hll := D.may_len hmy
    have hsm := D.pack_small l
    rw [hr] at hsm
    rw [D.pack_in hmy] at hr
    have hsz := D.may_size hmy
    obtain ⟨z0, hzz⟩ : ∃ z, V.put (l.length : Int) = z := ⟨_, rfl⟩
    have HZ := hide hzz
    rw [hzz] at hr
    have HR := hide hr
    clear hr hmy hzz
    subst hv
    go_enter Try.func24, Try.ntmps24
    go_wp2_with fail
    refine (may_any _ _ _ h _ (unhide HM)).mono ?_
    rintro e w1 ⟨rfl, rfl⟩
    go_wp2_with fail
    refine (put_b _ _ (by omega) (by omega) z0 (unhide HZ)).mono ?_
    rintro e w2 ⟨v2, rfl, O2, B2⟩
    clear HZ
    go_wp2
    go_loopw [3, 4, 16] (fun bv av iv wr => ∃ (k : Nat) (y : ByteArray) (zs : List Int), k ≤ l.length ∧ y.size ≤ 32 ∧ zs.length ≤ 7000 ∧ iv = .int .i64 k ∧ av = .string y ∧ wr.ownsRow w1.heap.size 5 1 bv zs.length (zs.map (Value.int .u8)) ∧ Below w1.heap.size w1 wr ∧ Hid (zs ++ D.enc y (l.drop k) = zr)) (fun _ _ iv _ => l.length - (intOf iv).toNat)
    case atStart => exact ⟨0, ⟨#[]⟩, z0, Nat.zero_le _, Nat.zero_le _, by have := congrArg List.length (unhide HR); simp only [List.length_append] at this; omega, rfl, rfl, O2, B2, unhide HR⟩
    case round =>
      obtain ⟨k, y, zs, hk, hy32, hzs, rfl, rfl, hown, hbel, HK⟩ := hrel
      clear HR O2 B2
      by_cases hlt : k < l.length
      · obtain ⟨b, off, rfl, hb, hc⟩ := ho (by omega)
        obtain ⟨x, hx⟩ : ∃ x, l[k]? = some x := ⟨l[k], List.getElem?_eq_getElem hlt⟩
        have c1 := (hbel.cell (p := ⟨b, off + k, none⟩) hb).trans (hc k x hx)
        have hx32 := (hsz x (List.mem_of_getElem? hx)).2
        have hs := unhide HK
        rw [drop_cons hx, D.enc, D.enc1] at hs
        have hcl := D.cm_le y x
        obtain ⟨c, hce⟩ : ∃ c, D.cm y x = c := ⟨_, rfl⟩
        rw [hce] at hs hcl
        obtain ⟨p1, hp1⟩ : ∃ z, V.put (c : Int) = z := ⟨_, rfl⟩
        obtain ⟨p2, hp2⟩ : ∃ z, V.put ((x.size : Int) - (c : Int)) = z := ⟨_, rfl⟩
        rw [hp1, hp2] at hs
        have hq1 := (V.put_len (c : Int)).2
        have hq2 := (V.put_len ((x.size : Int) - (c : Int))).2
        rw [hp1] at hq1
        rw [hp2] at hq2
        have HC := hide hce
        have HP1 := hide hp1
        have HP2 := hide hp2
        have HS := hide hs
        have hfz : (zs ++ p1 ++ p2 ++ (D.nums x).drop c).length ≤ 7000 := by
          have := congrArg List.length hs
          simp only [List.length_append] at this ⊢
          omega
        have HFZ := hide hfz
        clear hc hx hs hce hp1 hp2 HK ho hfz
        go_wp2_with fail
        refine (common_any y x _ (by unfold maxLen; omega) c (unhide HC)).mono ?_
        rintro e w3 ⟨rfl, B3⟩
        have O3 := own_below hown B3
        have BB3 := below_trans' hbel B3
        clear hown B3 c1
        go_wp2_with fail
        refine (put_b _ _ (by omega) (by omega) p1 (unhide HP1)).mono ?_
        rintro e w4 ⟨v4, rfl, O4, B4⟩
        have OB4 := own_below O3 B4
        have BB4 := below_trans' BB3 B4
        have S4 := Sl.owned O4
        obtain ⟨v4a, v4c, hv4, -⟩ := id S4
        subst hv4
        clear O3 BB3 O4 B4
        go_wp2_with (first
          | (at_builtin; refine append_all rfl (.tmp 23) (.tmp 25) 32 rfl Try.underlying32 hi5 hz0 hz1 hz2 rfl (pre := zs) (zs := p1) rfl rfl S4 OB4 BB4 BB4.size (by omega) (by decide) ?_; intro v5 w5 O5 B5)
          | (go_at_call 36; refine (put_b _ _ (by omega) (by omega) p2 (unhide HP2)).mono ?_; rintro e w6 ⟨v6, rfl, O6, B6⟩; have OB6 := own_below O5 B6; have BB6 := below_trans' B5 B6; have S6 := Sl.owned O6; obtain ⟨v6a, v6c, hv6, -⟩ := id S6; subst hv6)
          | (at_builtin; refine append_all rfl (.tmp 27) (.tmp 32) 32 rfl Try.underlying32 hi5 hz0 hz1 hz2 rfl (pre := zs ++ p1) (zs := p2) rfl rfl S6 OB6 BB6 BB6.size (by simp; omega) (by decide) ?_; intro v7 w7 O7 B7)
          | (at_builtin; refine append_str rfl (.tmp 34) (.tmp 37) 32 9 rfl Try.underlying32 Try.underlying9 hi5 hz0 hz1 hz2 (pre := zs ++ p1 ++ p2) (y := x.extract c x.size) rfl rfl O7 B7 B7.size (by simp; omega) ?_; intro v8 w8 O8 B8))
        go_roundw
        case rel =>
          rw [drop_nums] at O8
          refine ⟨k + 1, x, zs ++ p1 ++ p2 ++ (D.nums x).drop c, by omega, by omega, unhide HFZ, by go_num, rfl, O8, B8, ?_⟩
          show _ = _
          rw [← unhide HS]
          simp
        case measure => simp [intOf]; omega
      · have HE : Hid (zs = zr) := by
          show _ = _
          have := unhide HK
          rw [List.drop_eq_nil_of_le (by omega), D.enc, List.append_nil] at this
          exact this
        clear ho
        go_wp2
        go_ret
        exact ⟨_, rfl, by rw [← unhide HE]; exact hown, hbel⟩
end Go.Proofs.Ytgiefkeophobhaa
