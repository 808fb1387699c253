/-
  A frame that is cut, or has more behind it, is none: the walk of FrameCuts.
-/
import Derived.Test.YtfffjolodilhoaaAwake2
namespace Go.Proofs.Ytfffjolodilhoaa
open Go.RowKit

theorem F.wrap_long {kind : Int} {l : List Int} : (F.wrap kind l).length ≤ 65547 := by
  by_cases h : l.length ≤ 65536
  · rw [F.wrap_in h, F.frame_len]
    have := (V.put_len l.length).2
    omega
  · rw [F.wrap_out h]; simp

set_option maxHeartbeats 1000000 in
theorem frameCuts_walk (v vm : Value) (l more : List Int) (kind cut : Int) (w : World) (s : Sl .u8 w v l) (sm : Sl .u8 w vm more) (b : V.Byt l) (bm : V.Byt more) (hk : 0 ≤ kind ∧ kind ≤ 255) :
    Calls Try.prog 6 #[v, .int .u8 kind, .int .i64 cut, vm] w fun e w' => e = .returned (.bool true) ∧ Below w.heap.size w w' := by
  obtain ⟨i0, hi, hz0, hz1, hz2⟩ := info_parts Try.info5
  go_enter Try.func6, Try.ntmps6
  go_wp2_with fail
  refine (awake2_any _).mono ?_
  rintro e w1 ⟨rfl, B1⟩
  have S1 := s.below B1
  have M1 := sm.below B1
  clear s sm
  go_wp2_with fail
  refine (wrap_b kind _ l _ S1 b hk _ rfl).mono ?_
  rintro e w2 ⟨v2, rfl, T2, hb2⟩
  have B2 := below_trans' B1 hb2
  have S2 := S1.below hb2
  have M2 := M1.below hb2
  clear B1 S1 M1 hb2
  obtain ⟨a, cap, rfl, hl, hm, hna, ho⟩ := S2.open
  obtain ⟨am, cm, rfl, hlm, hmm, hnam, hom⟩ := M2.open
  obtain ⟨a2, c2, rfl, l2, m2, n2, o2⟩ := T2.open
  clear ho hom hna hnam
  by_cases h2 : 2000 < l.length
  · clear o2 n2
    go_wp2
    go_ret
    exact ⟨rfl, B2⟩
  · have hle : l.length ≤ 65536 := by omega
    have h2' : decide (2000 < (l.length : Int)) = false := by simp; omega
    have HW := hide (F.wrap_in (kind := kind) hle)
    have hwl := F.wrap_long (kind := kind) (l := l)
    by_cases hc0 : cut < 0
    · clear o2 n2
      have hc0' : decide (cut < 0) = true := by simpa using hc0
      go_wp2
      go_ret
      exact ⟨rfl, B2⟩
    · have hc0' : decide (cut < 0) = false := by simp; omega
      by_cases hc1 : ((F.wrap kind l).length : Int) ≤ cut
      · clear o2 n2
        have hc1' : decide (((F.wrap kind l).length : Int) ≤ cut) = true := by simpa using hc1
        go_wp2
        go_ret
        exact ⟨rfl, B2⟩
      · have hc1' : decide (((F.wrap kind l).length : Int) ≤ cut) = false := by simp; omega
        by_cases hm1 : 100 < more.length
        · clear o2 n2
          have hm1' : decide (100 < (more.length : Int)) = true := by simp; omega
          go_wp2
          go_ret
          exact ⟨rfl, B2⟩
        · have hm1' : decide (100 < (more.length : Int)) = false := by simp; omega
          obtain ⟨b2, f2, rfl, -, -⟩ := o2 (by omega)
          clear o2 n2
          obtain ⟨c, rfl⟩ := Int.eq_ofNat_of_zero_le (show 0 ≤ cut by omega)
          have hcl : c < (F.wrap kind l).length := by omega
          have hcap : c ≤ c2 := by omega
          have hcap0 : ¬ c2 = 0 := by omega
          have bw : V.Byt (F.wrap kind l) := by rw [unhide HW]; exact F.frame_byt hk b hle
          have HC : Hid (F.opened ((F.wrap kind l).take c) kind = ([], 5)) := by
            rw [unhide HW]; rw [unhide HW] at hcl; exact F.opened_cut hle hcl
          go_wp2_with fail
          refine (open_b _ _ kind _ (T2.take c (by omega)) (bw.take c) [] 5 (unhide HC)).mono ?_
          rintro e w3 ⟨v3, rfl, -, hb3⟩
          have B3 := below_trans' B2 hb3
          have T3 := T2.below hb3
          have M3 := M2.below hb3
          clear B2 T2 S2 M2 hb3 HC
          go_wp2_with (first
            | (at_builtin; refine append_all rfl (.const (.slice none 0 0)) (.tmp 51) 22 rfl Try.underlying22 hi hz0 hz1 hz2 rfl (B := w3.heap.size) (w0 := w3) (pre := []) (zs := F.wrap kind l) rfl rfl T3 (World.ownsRow_nil _ _ _ _) (Below.refl _ _) (Nat.le_refl _) (by simp; omega) (by decide) ?_; intro v4 w4 hown4 hb4)
            | (at_builtin; refine append_all rfl (.tmp 52) (.tmp 53) 22 rfl Try.underlying22 hi hz0 hz1 hz2 rfl (pre := [] ++ F.wrap kind l) (zs := more) rfl rfl (M3.below hb4) hown4 hb4 hb4.size (by simp; omega) (by decide) ?_; intro v5 w5 hown5 hb5))
          have S5 := Sl.owned hown5
          simp only [List.nil_append] at S5
          have B5 := below_trans' B3 hb5
          clear hown4 hb4 hown5 hb5 B3 T3 M3
          by_cases hm0 : more.length = 0
          · have hm0a : ((more.length : Int) == 0) = true := by simp [hm0]
            have HO : Hid (F.opened (F.wrap kind l ++ more) kind = (l, 0)) := by
              rw [List.eq_nil_of_length_eq_zero hm0, List.append_nil, unhide HW]; exact F.opened_frame hle
            clear hm0
            refine (open_b _ _ kind _ S5 (bw.app bm) l 0 (unhide HO)).mono ?_
            rintro e w6 ⟨v6, rfl, -, hb6⟩
            have B6 := below_trans' B5 hb6
            clear B5 S5 hb6
            go_wp2
            go_ret
            exact ⟨rfl, B6⟩
          · have hm0a : ((more.length : Int) == 0) = false := by rw [beq_eq_false_iff_ne]; omega
            have hm0b : 0 < more.length := by omega
            have HO : Hid (F.opened (F.wrap kind l ++ more) kind = ([], 5)) := by
              rw [unhide HW]; exact F.opened_more hle (by omega)
            clear hm0
            refine (open_b _ _ kind _ S5 (bw.app bm) [] 5 (unhide HO)).mono ?_
            rintro e w6 ⟨v6, rfl, -, hb6⟩
            have B6 := below_trans' B5 hb6
            clear B5 S5 hb6
            go_wp2
            go_ret
            exact ⟨rfl, B6⟩
end Go.Proofs.Ytfffjolodilhoaa
