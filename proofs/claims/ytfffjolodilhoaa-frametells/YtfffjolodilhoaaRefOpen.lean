/-
  The contract of the document's Open: it answers what the program's does.
-/
import Derived.Test.YtfffjolodilhoaaRefWrap
namespace Go.Proofs.Ytfffjolodilhoaa
open Go.RowKit

theorem refGet_b (v : Value) (l : List Int) (x : Int) (w : World) (h : Sl .u8 w v l) (hb : V.Byt l) (hll : l.length ≤ 4294967296) (r : Int × Int × Int) (hr : V.get l x = r) :
    Calls Try.prog 20 #[v, .int .i64 x] w fun e w' => e = .returned (.tuple #[.int .i64 r.1, .int .i64 r.2.1, .int .i64 r.2.2]) ∧ Below w.heap.size w w' :=
  (refGet_any v l x w h hb hll).mono fun e w' ⟨h1, h2⟩ => ⟨by rw [h1, hr], h2⟩

set_option maxHeartbeats 400000 in
theorem refOpen_short (v : Value) (l : List Int) (kind : Int) (w : World) (h : Sl .u8 w v l) (h2 : l.length < 2) : Calls Try.prog 11 #[v, .int .u8 kind] w (OpenEnd w ([], 5)) := by
  obtain ⟨a, cap, rfl, hl, hm, hna, ho⟩ := h.open
  clear h ho hna
  have h2' : decide ((l.length : Int) < 2) = true := by simp; omega
  go_enter Try.func11, Try.ntmps11
  go_wp2
  go_ret2
  exact openEnd_err (Below.refl _ _)

set_option maxHeartbeats 400000 in
theorem refOpen_head (v : Value) (c0 c1 : Int) (r : List Int) (kind : Int) (w : World) (h : Sl .u8 w v (c0 :: c1 :: r)) (hh : ¬ (c0 = 70 ∧ c1 = kind)) : Calls Try.prog 11 #[v, .int .u8 kind] w (OpenEnd w ([], 5)) := by
  obtain ⟨a, cap, rfl, hl, hm, hna, ho⟩ := h.open
  obtain ⟨b, off, rfl, hbl, hc⟩ := ho (by simp)
  have k0 := hc 0 (by simp)
  have k1 := hc 1 (by simp)
  simp at k0 k1 hl
  clear h ho hna hc
  have h2' : decide (((c0 :: c1 :: r).length : Int) < 2) = false := by simp; omega
  have h3 : 2 ≤ ((c0 :: c1 :: r).length : Int) := by simp; omega
  generalize (c0 :: c1 :: r).length = L at *
  by_cases h70 : c0 = 70
  · have hk : (c1 != kind) = true := by simp; omega
    subst h70
    go_enter Try.func11, Try.ntmps11
    go_wp2
    go_ret2
    exact openEnd_err (Below.refl _ _)
  · have hk : (c0 != 70) = true := by simp; omega
    go_enter Try.func11, Try.ntmps11
    go_wp2
    go_ret2
    exact openEnd_err (Below.refl _ _)

set_option maxHeartbeats 400000 in
theorem refOpen_none (v : Value) (l r : List Int) (kind : Int) (w : World) (hlr : l = 70 :: kind :: r) (h : Sl .u8 w v l) (hb : V.Byt l) (hll : l.length ≤ 4294967296) (hg : V.getH 5 r = none) : Calls Try.prog 11 #[v, .int .u8 kind] w (OpenEnd w ([], 5)) := by
  have hs := h
  have hlen2 : 2 ≤ l.length := by rw [hlr]; simp
  obtain ⟨a, cap, rfl, hl, hm, hna, ho⟩ := h.open
  obtain ⟨b, off, rfl, hbl, hc⟩ := ho (by omega)
  have k0 : w.cell? ⟨b, off, none⟩ = some (.int .u8 70) := by have := hc 0 (by omega); rw [Nat.add_zero] at this; rw [this, hlr]; rfl
  have k1 : w.cell? ⟨b, off + 1, none⟩ = some (.int .u8 kind) := by have := hc 1 (by omega); rw [this, hlr]; rfl
  clear h ho hna hc
  have hk : (kind != kind) = false := by simp
  have h2' : decide ((l.length : Int) < 2) = false := by simp; omega
  have HG := hide (get_two_none hlr hg)
  clear hg hlr
  go_enter Try.func11, Try.ntmps11
  go_wp2_with fail
  refine (refGet_b _ l 2 _ hs hb hll (0, 0, 5) (unhide HG)).mono ?_
  rintro e w1 ⟨rfl, hb1⟩
  go_wp2
  go_ret2
  exact openEnd_err hb1

set_option maxHeartbeats 400000 in
theorem refOpen_size (v : Value) (l r : List Int) (kind : Int) (n k : Nat) (w : World) (hlr : l = 70 :: kind :: r) (h : Sl .u8 w v l) (hb : V.Byt l) (hll : l.length ≤ 4294967296) (hg : V.getH 5 r = some ((n : Int), k)) (hn0 : n ≤ 34359738367) (hkr : 2 + k ≤ l.length)
    (hn : ¬ (n ≤ 65536 ∧ l.length = 2 + k + n + 4)) : Calls Try.prog 11 #[v, .int .u8 kind] w (OpenEnd w ([], 5)) := by
  have hs := h
  have hlen2 : 2 ≤ l.length := by rw [hlr]; simp
  obtain ⟨a, cap, rfl, hl, hm, hna, ho⟩ := h.open
  obtain ⟨b, off, rfl, hbl, hc⟩ := ho (by omega)
  have k0 : w.cell? ⟨b, off, none⟩ = some (.int .u8 70) := by have := hc 0 (by omega); rw [Nat.add_zero] at this; rw [this, hlr]; rfl
  have k1 : w.cell? ⟨b, off + 1, none⟩ = some (.int .u8 kind) := by have := hc 1 (by omega); rw [this, hlr]; rfl
  clear h ho hna hc
  have hk : (kind != kind) = false := by simp
  have h2' : decide ((l.length : Int) < 2) = false := by simp; omega
  have HG := hide (get_two hlr hg)
  clear hg hlr
  go_enter Try.func11, Try.ntmps11
  go_wp2_with fail
  refine (refGet_b _ l 2 _ hs hb hll (n, 2 + k, 0) (unhide HG)).mono ?_
  rintro e w1 ⟨rfl, hb1⟩
  clear HG hs k0 k1
  by_cases h6 : n ≤ 65536
  · have h7 : decide (65536 < (n : Int)) = false := by simp; omega
    have h8 : ((l.length : Int) - (2 + k) != n + 4) = true := by simp; omega
    clear hn
    go_wp2
    go_ret2
    exact openEnd_err hb1
  · have h7 : decide (65536 < (n : Int)) = true := by simp; omega
    clear hn
    go_wp2
    go_ret2
    exact openEnd_err hb1

set_option maxHeartbeats 1000000 in
theorem refOpen_rest (v : Value) (l r : List Int) (kind : Int) (n k : Nat) (w : World) (hlr : l = 70 :: kind :: r) (h : Sl .u8 w v l) (hb : V.Byt l) (hll : l.length ≤ 4294967296) (hg : V.getH 5 r = some ((n : Int), k)) (hp : V.put n = r.take k) (hkd : 0 ≤ kind ∧ kind ≤ 255) (hn : n ≤ 65536) (hk5 : k ≤ 5)
    (hlen : l.length = 2 + k + n + 4) : Calls Try.prog 11 #[v, .int .u8 kind] w (OpenEnd w (F.rest l n (2 + k))) := by
  obtain ⟨i0, hi, hz0, hz1, hz2⟩ := info_parts Try.info5
  have hs := h
  have hlen2 : 2 ≤ l.length := by rw [hlr]; simp
  obtain ⟨a, cap, rfl, hl, hm, hna, ho⟩ := h.open
  obtain ⟨b, off, rfl, hbl, hc⟩ := ho (by omega)
  have k0 : w.cell? ⟨b, off, none⟩ = some (.int .u8 70) := by have := hc 0 (by omega); rw [Nat.add_zero] at this; rw [this, hlr]; rfl
  have k1 : w.cell? ⟨b, off + 1, none⟩ = some (.int .u8 kind) := by have := hc 1 (by omega); rw [this, hlr]; rfl
  clear h ho hna hc
  have hk : (kind != kind) = false := by simp
  have h2' : decide ((l.length : Int) < 2) = false := by simp; omega
  have HG := hide (get_two hlr hg)
  have ws := F.wrap_same hlr hp hn hlen
  have HL := hide hlen
  have h8 : ((l.length : Int) - (2 + k) != n + 4) = false := by simp; omega
  have h7 : decide (65536 < (n : Int)) = false := by simp; omega
  have h9 : 2 + k + n ≤ l.length := by omega
  have h12 : 2 + k < cap := by omega
  have hsl2 := Try.slice_u8 b off l.length cap (2 + k) n (2 + (k : Int)) (2 + (k : Int) + (n : Int)) (by omega) (by omega) (by omega) (by omega)
  have len3 : ((l.drop (2 + k)).take n).length ≤ n := List.length_take_le _ _
  have HR : Hid (F.rest l n (2 + k) = if F.wrap kind ((l.drop (2 + k)).take n) = l then ((l.drop (2 + k)).take n, 0) else ([], 6)) := by
    unfold F.rest
    show (if _ then _ else _) = _
    simp only [ws]
  clear hg hlr hlen ws
  go_enter Try.func11, Try.ntmps11
  go_wp2_with fail
  refine (refGet_b _ l 2 _ hs hb hll (n, 2 + k, 0) (unhide HG)).mono ?_
  rintro e w1 ⟨rfl, hb1⟩
  have S1 := hs.below hb1
  have S1s : Sl .u8 w1 (.slice (some ⟨b, off + (2 + k), none⟩) n (cap - (2 + k))) ((l.drop (2 + k)).take n) := S1.sub (2 + k) n (by omega)
  have hB1 := hb1.size
  clear HG k0 k1
  go_wp2_with (at_builtin; refine append_all rfl (.const (.slice none 0 0)) (.tmp 53) 22 rfl Try.underlying22 hi hz0 hz1 hz2 rfl (B := w.heap.size) (w0 := w) (pre := []) (zs := (l.drop (2 + k)).take n) rfl rfl S1s (World.ownsRow_nil _ _ _ _) hb1 hB1 (by simp; omega) (by decide) ?_; intro v3 w3 hown3 hb3)
  rw [List.nil_append] at hown3
  have X3 := Sl.owned hown3
  have S3 := hs.below hb3
  have bx : V.Byt ((l.drop (2 + k)).take n) := (hb.drop _).take _
  clear hsl2 S1s hb1 S1 hB1
  refine (refWrap_any kind _ _ _ X3 bx hkd).mono ?_
  rintro e w4 ⟨v4, rfl, hown4, hb4⟩
  have B4 := below_trans' hb3 hb4
  have S4 := S3.below hb4
  have W4 := Sl.owned hown4
  have O4 := own_below hown3 hb4
  clear X3 S3 hb3 hb4 hown3 hown4
  by_cases hd : F.wrap kind ((l.drop (2 + k)).take n) = l
  · have HD := hide hd
    rw [if_pos hd] at HR
    clear hd
    go_wp2_with fail
    refine (bytes_b _ _ _ _ _ W4 S4 true (decide_eq_true (unhide HD))).mono ?_
    rintro e w5 ⟨rfl, hb5⟩
    have B5 := below_trans' B4 hb5
    have O5 := own_below O4 hb5
    clear B4 S4 W4 O4 hb5
    go_wp2
    go_ret2
    rw [unhide HR]
    exact ⟨_, rfl, O5, B5⟩
  · have HD := hide hd
    rw [if_neg hd] at HR
    clear hd
    go_wp2_with fail
    refine (bytes_b _ _ _ _ _ W4 S4 false (decide_eq_false (unhide HD))).mono ?_
    rintro e w5 ⟨rfl, hb5⟩
    have B5 := below_trans' B4 hb5
    clear B4 S4 W4 O4 hb5
    go_wp2
    go_ret2
    rw [unhide HR]
    exact openEnd_err B5

theorem refOpen_any (v : Value) (l : List Int) (kind : Int) (w : World) (h : Sl .u8 w v l) (hb : V.Byt l) (hll : l.length ≤ 4294967296) (hkd : 0 ≤ kind ∧ kind ≤ 255) : Calls Try.prog 11 #[v, .int .u8 kind] w (OpenEnd w (F.opened l kind)) := by
  by_cases h2 : l.length < 2
  · rw [F.opened_short h2]
    exact refOpen_short v l kind w h h2
  · obtain ⟨c0, c1, r, hlr⟩ : ∃ c0 c1 r, l = c0 :: c1 :: r := by
      match l, h2 with
      | [], h2 => simp at h2
      | [_], h2 => simp at h2
      | c0 :: c1 :: r, _ => exact ⟨c0, c1, r, rfl⟩
    by_cases hh : c0 = 70 ∧ c1 = kind
    · obtain ⟨rfl, rfl⟩ := hh
      cases hg : V.getH 5 r with
      | none =>
        rw [show F.opened l c1 = ([], 5) by rw [hlr]; exact F.opened_none hg]
        exact refOpen_none v l r c1 w hlr h hb hll hg
      | some y =>
        obtain ⟨n, k⟩ := y
        have hbr : V.Byt r := by rw [hlr] at hb; exact hb.tail.tail
        obtain ⟨g1, g2, g3, g4, g5⟩ := V.put_getH hbr hg
        have g6 : k ≤ 5 := by
          have := congrArg List.length g1
          have h5 := (V.put_len n).2
          rw [this, List.length_take] at h5
          omega
        have hlr2 : l.length = r.length + 2 := by rw [hlr]; simp
        unfold V.Top at g3
        obtain ⟨m, rfl⟩ := Int.eq_ofNat_of_zero_le g2
        by_cases hn : m ≤ 65536 ∧ l.length = 2 + k + m + 4
        · rw [show F.opened l c1 = F.rest l m (2 + k) by rw [hlr]; rw [hlr] at hn; exact F.opened_rest hg hn.1 hn.2]
          exact refOpen_rest v l r c1 m k w hlr h hb hll hg g1 hkd hn.1 g6 hn.2
        · rw [show F.opened l c1 = ([], 5) by rw [hlr]; rw [hlr] at hn; exact F.opened_size hg (by omega)]
          exact refOpen_size v l r c1 m k w hlr h hb hll hg (by omega) (by omega) hn
    · rw [show F.opened l kind = ([], 5) by rw [hlr]; exact F.opened_head hh]
      exact refOpen_head v c0 c1 r kind w (by rw [← hlr]; exact h) hh
end Go.Proofs.Ytfffjolodilhoaa
