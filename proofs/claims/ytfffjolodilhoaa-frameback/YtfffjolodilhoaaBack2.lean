/-
  What is wrapped is opened as it, as of its kind alone: the walk of FrameBack. What is opened, wrapped again, is the same bytes: the walk of FrameOnce.
-/
import Derived.Test.YtfffjolodilhoaaAwake2
namespace Go.Proofs.Ytfffjolodilhoaa
open Go.RowKit

set_option maxHeartbeats 1000000 in
theorem frameBack_walk (v : Value) (l : List Int) (kind other : Int) (w : World) (s : Sl .u8 w v l) (b : V.Byt l) (hk : 0 ≤ kind ∧ kind ≤ 255) :
    Calls Try.prog 4 #[v, .int .u8 kind, .int .u8 other] w fun e w' => e = .returned (.bool true) ∧ Below w.heap.size w w' := by
  go_enter Try.func4, Try.ntmps4
  go_wp2_with fail
  refine (awake2_any _).mono ?_
  rintro e w1 ⟨rfl, B1⟩
  have S1 := s.below B1
  obtain ⟨a, cap, rfl, hl, hm, hna, ho⟩ := S1.open
  clear ho s hna
  by_cases h2 : 2000 < l.length
  · go_wp2
    go_ret
    exact ⟨rfl, B1⟩
  · have hle : l.length ≤ 65536 := by omega
    go_wp2_with fail
    refine (wrap_b kind _ l _ S1 b hk (F.frame kind l) (F.wrap_in hle)).mono ?_
    rintro e w2 ⟨v2, rfl, T2, hb2⟩
    have B2 := below_trans' B1 hb2
    have S2 := S1.below hb2
    clear B1 S1 hb2
    go_wp2_with fail
    refine (open_b _ _ kind _ T2 (F.frame_byt hk b hle) l 0 (F.opened_frame hle)).mono ?_
    rintro e w3 ⟨v3, rfl, X3, hb3⟩
    have B3 := below_trans' B2 hb3
    have S3 := S2.below hb3
    have T3 := T2.below hb3
    clear B2 S2 T2 hb3
    by_cases hko : kind = other
    · subst hko
      have hkk : (kind == kind) = true := by simp
      have hkn : (kind != kind) = false := by simp
      go_wp2_with fail
      refine (open_b _ _ kind _ T3 (F.frame_byt hk b hle) l 0 (F.opened_frame hle)).mono ?_
      rintro e w4 ⟨v4, rfl, Y4, hb4⟩
      have B4 := below_trans' B3 hb4
      have S4 := S3.below hb4
      have X4 := X3.below hb4
      clear B3 S3 T3 X3 hb4
      obtain ⟨a4, c4, e4, l4, m4, n4, o4⟩ := Y4.open
      subst e4
      clear o4 n4 Y4
      go_wp2_with fail
      refine (bytes_b _ _ _ _ _ X4 S4 true (by simp)).mono ?_
      rintro e w5 ⟨rfl, hb5⟩
      have B5 := below_trans' B4 hb5
      clear B4 S4 X4 hb5
      go_wp2
      go_ret
      exact ⟨rfl, B5⟩
    · have hkk : (kind == other) = false := by simp [hko]
      have hkn : (kind != other) = true := by simp [hko]
      have HK := hide hko
      clear hko
      go_wp2_with fail
      refine (open_b _ _ other _ T3 (F.frame_byt hk b hle) [] 5 (F.opened_other (unhide HK))).mono ?_
      rintro e w4 ⟨v4, rfl, Y4, hb4⟩
      have B4 := below_trans' B3 hb4
      have S4 := S3.below hb4
      have X4 := X3.below hb4
      clear B3 S3 T3 X3 hb4
      obtain ⟨a4, c4, e4, l4, m4, n4, o4⟩ := Y4.open
      subst e4
      clear o4 n4 Y4
      go_wp2_with fail
      refine (bytes_b _ _ _ _ _ X4 S4 true (by simp)).mono ?_
      rintro e w5 ⟨rfl, hb5⟩
      have B5 := below_trans' B4 hb5
      clear B4 S4 X4 hb5
      go_wp2
      go_ret
      exact ⟨rfl, B5⟩

set_option maxHeartbeats 1000000 in
theorem frameOnce_walk (v : Value) (l : List Int) (kind : Int) (w : World) (s : Sl .u8 w v l) (b : V.Byt l) (hk : 0 ≤ kind ∧ kind ≤ 255) :
    Calls Try.prog 8 #[v, .int .u8 kind] w fun e w' => e = .returned (.bool true) ∧ Below w.heap.size w w' := by
  go_enter Try.func8, Try.ntmps8
  go_wp2_with fail
  refine (awake2_any _).mono ?_
  rintro e w1 ⟨rfl, B1⟩
  have S1 := s.below B1
  obtain ⟨a, cap, rfl, hl, hm, hna, ho⟩ := S1.open
  clear ho s hna
  by_cases h3 : 3000 < l.length
  · go_wp2
    go_ret
    exact ⟨rfl, B1⟩
  · rcases F.opened_cases (kind := kind) b with (h | h) | ⟨h0, -, hx1, hw⟩
    · have HO := hide h
      clear h
      go_wp2_with fail
      refine (open_b _ _ kind _ S1 b [] 5 (unhide HO)).mono ?_
      rintro e w2 ⟨v2, rfl, T2, hb2⟩
      have B2 := below_trans' B1 hb2
      obtain ⟨a4, c4, e4, l4, m4, n4, o4⟩ := T2.open
      subst e4
      clear o4 n4 T2 B1 S1 hb2
      go_wp2
      go_ret
      exact ⟨rfl, B2⟩
    · have HO := hide h
      clear h
      go_wp2_with fail
      refine (open_b _ _ kind _ S1 b [] 6 (unhide HO)).mono ?_
      rintro e w2 ⟨v2, rfl, T2, hb2⟩
      have B2 := below_trans' B1 hb2
      obtain ⟨a4, c4, e4, l4, m4, n4, o4⟩ := T2.open
      subst e4
      clear o4 n4 T2 B1 S1 hb2
      go_wp2
      go_ret
      exact ⟨rfl, B2⟩
    · have HO : Hid (F.opened l kind = ((F.opened l kind).1, 0)) := by rw [← h0]; rfl
      have HW := hide hw
      obtain ⟨x, hx⟩ : ∃ x, x = (F.opened l kind).1 := ⟨_, rfl⟩
      rw [← hx] at HO HW hx1
      clear h0 hw hx
      go_wp2_with fail
      refine (open_b _ _ kind _ S1 b x 0 (unhide HO)).mono ?_
      rintro e w2 ⟨v2, rfl, T2, hb2⟩
      have B2 := below_trans' B1 hb2
      have S2 := S1.below hb2
      clear B1 S1 hb2
      go_wp2_with fail
      refine (wrap_b kind _ x _ T2 hx1 hk l (unhide HW)).mono ?_
      rintro e w3 ⟨v3, rfl, T3, hb3⟩
      have B3 := below_trans' B2 hb3
      have S3 := S2.below hb3
      clear B2 S2 T2 hb3
      go_wp2_with fail
      refine (bytes_b _ _ _ _ _ T3 S3 true (by simp)).mono ?_
      rintro e w4 ⟨rfl, hb4⟩
      have B4 := below_trans' B3 hb4
      go_wp2
      go_ret
      exact ⟨rfl, B4⟩
end Go.Proofs.Ytfffjolodilhoaa
