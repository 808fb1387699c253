/-
  What is read, a number, or a list, is put again by just the bytes that were read: the walk of VintTwice.
-/
import Derived.Test.YtfhgcofbomcfoaaRefGet
import Derived.Deep.DeepCutAuto
namespace Go.Proofs.Ytfhgcofbomcfoaa
open Go.RowKit

theorem own_any {r : List Int × Int × Int} {w w' : World} {e : Ending} (h : ReadEnd w r e w') : ∃ v', e = .returned (.tuple #[v', .int .i64 r.2.1, .int .i64 r.2.2]) ∧ Sl .i64 w' v' r.1 ∧ Below w.heap.size w w' := by
  obtain ⟨v', h1, h2, h3⟩ := h
  exact ⟨v', h1, Sl.owned h2, h3⟩

set_option maxHeartbeats 1000000 in
set_option maxRecDepth 100000 in
theorem vintTwice_walk (v : Value) (l : List Int) (x : Int) (w : World) (s : Sl .u8 w v l) (b : V.Byt l) :
    Calls Try.prog 8 #[v, .int .i64 x] w fun e w' => e = .returned (.bool true) ∧ Below w.heap.size w w' := by
  go_enter Try.func8, Try.ntmps8
  go_wp2_with fail
  refine (awake_any _).mono ?_
  rintro e w1 ⟨rfl, B1⟩
  have S1 := s.below B1
  obtain ⟨a, cap, rfl, hl, hm, hna, ho⟩ := S1.open
  clear s hna
  by_cases h3 : 3000 < l.length
  · clear ho
    go_wp2
    go_ret
    exact ⟨rfl, B1⟩
  · by_cases hx : x < 0 ∨ (l.length : Int) < x
    · clear ho
      have hg := hide (get_arg hx)
      have hr := hide (read_arg hx)
      clear hx
      go_wp2_with fail
      refine (get_b _ l x _ S1 b (0, 0, 1) (unhide hg)).mono ?_
      rintro e w2 ⟨rfl, hb2⟩
      have B2 := below_trans' B1 hb2
      have S2 := S1.below hb2
      clear B1 S1 hb2
      go_wp2_with fail
      refine (read_any _ l x _ S2 b).mono ?_
      intro e w3 hre
      rw [unhide hr] at hre
      obtain ⟨v3, rfl, -, hb3⟩ := own_any hre
      have B3 := below_trans' B2 hb3
      clear B2 S2 hb3 hre
      go_wp2
      go_ret
      exact ⟨rfl, B3⟩
    · obtain ⟨p, rfl⟩ := Int.eq_ofNat_of_zero_le (show 0 ≤ x by omega)
      have hp : p ≤ l.length := by omega
      clear hx
      cases hgc : V.getH 5 (l.drop p) with
      | none =>
        clear ho
        have hg := hide (get_none hp hgc)
        have hr := hide (read_none hp (readP_none hgc))
        clear hgc
        go_wp2_with fail
        refine (get_b _ l _ _ S1 b (0, 0, 5) (unhide hg)).mono ?_
        rintro e w2 ⟨rfl, hb2⟩
        have B2 := below_trans' B1 hb2
        have S2 := S1.below hb2
        clear B1 S1 hb2
        go_wp2_with fail
        refine (read_any _ l _ _ S2 b).mono ?_
        intro e w3 hre
        rw [unhide hr] at hre
        obtain ⟨v3, rfl, -, hb3⟩ := own_any hre
        have B3 := below_trans' B2 hb3
        clear B2 S2 hb3 hre
        go_wp2
        go_ret
        exact ⟨rfl, B3⟩
      | some y =>
        obtain ⟨n, k⟩ := y
        obtain ⟨g1, g2, g3, g4, g5⟩ := V.put_getH (b.drop p) hgc
        unfold V.Top at g3
        simp only [List.length_drop] at g5
        have hg := hide (get_some hp hgc)
        have hdec : decide (V.putA n = (l.drop p).take k) = true := by rw [V.putA_in ⟨g2, g3⟩, g1]; simp
        have HD := hide hdec
        clear hgc g1 hdec
        obtain ⟨b0, off, rfl, -, -⟩ := ho (by omega)
        clear ho
        have hsl := Try.slice_u8 b0 off l.length cap p k (p : Int) ((p : Int) + (k : Int)) rfl rfl (by omega) (by omega)
        have t1 : decide ((p : Int) + (k : Int) ≤ (l.length : Int)) = true := by simp; omega
        have t2 : decide ((p : Int) < (p : Int) + (k : Int)) = true := by simp; omega
        have t3 : decide (0 < k) = true := by simp; omega
        have t4 : decide (0 < (k : Int)) = true := by simp; omega
        go_wp2_with fail
        refine (get_b _ l _ _ S1 b _ (unhide hg)).mono ?_
        rintro e w2 ⟨rfl, hb2⟩
        have B2 := below_trans' B1 hb2
        have S2 := S1.below hb2
        clear B1 S1 hb2 hg
        go_wp2_with fail
        refine (read_any _ l _ _ S2 b).mono ?_
        intro e w3 hre
        obtain ⟨⟨r1, r2, r3⟩, hR⟩ : ∃ r, r = V.read l p := ⟨_, rfl⟩
        rw [← hR] at hre
        obtain ⟨v3, rfl, S3, hb3⟩ := own_any hre
        have HR := hide hR
        clear hR
        simp only [] at S3
        have B3 := below_trans' B2 hb3
        have T3 := S2.below hb3
        clear B2 S2 hb3 hre
        go_upto_region 7 with fail
        go_cut [12] (fun sm wx => sm = .bool true ∧ Below w3.heap.size w3 wx)
        case first =>
          refine wp_region_any (by kernel_rfl) ?_
          refine wpAny_take (i := 0) (v := ?_) rfl (by kernel_rfl) (by kernel_rfl) (by kernel_rfl) (fun _ _ _ h => h) (Or.inl ⟨by kernel_rfl, ?_⟩) ?_
          rotate_left
          · intro w
            go_simp
            with_reducible rfl
          refine wpAny_take (i := 1) (v := ?_) rfl (by kernel_rfl) (by kernel_rfl) (by kernel_rfl) (fun _ _ _ h => h) (Or.inl ⟨by kernel_rfl, ?_⟩) ?_
          rotate_left
          · intro w
            go_simp
            with_reducible rfl
          refine wpAny_take (i := 2) (v := ?_) rfl (by kernel_rfl) (by kernel_rfl) (by kernel_rfl) (fun _ _ _ h => h) (Or.inl ⟨by kernel_rfl, ?_⟩) ?_
          rotate_left
          · intro w
            go_simp
            with_reducible rfl
          refine wpAny_take (i := 3) (v := ?_) rfl (by kernel_rfl) (by kernel_rfl) (by kernel_rfl) (fun _ _ _ h => h) (Or.inl ⟨by kernel_rfl, ?_⟩) ?_
          rotate_left
          · intro w
            go_simp
            with_reducible rfl
          refine wpAny_take (i := 4) (v := ?_) rfl (by kernel_rfl) (by kernel_rfl) (by kernel_rfl) (fun _ _ _ h => h) (Or.inl ⟨by kernel_rfl, ?_⟩) ?_
          rotate_left
          · intro w
            go_simp
            with_reducible rfl
          refine wpAny_take (i := 5) (v := ?_) rfl (by kernel_rfl) (by kernel_rfl) (by kernel_rfl) (fun _ _ _ h => h) (Or.inl ⟨by kernel_rfl, ?_⟩) ?_
          rotate_left
          · intro w
            go_simp
            with_reducible rfl
          refine wpAny_take (i := 6) (v := ?_) rfl (by kernel_rfl) (by kernel_rfl) (by kernel_rfl) (fun _ _ _ h => h) (Or.inl ⟨by kernel_rfl, ?_⟩) ?_
          rotate_left
          · intro w
            go_simp
            with_reducible rfl
          refine wpAny_take (i := 7) (v := ?_) rfl (by kernel_rfl) (by kernel_rfl) (by kernel_rfl) (fun _ _ _ h => h) (Or.inl ⟨by kernel_rfl, ?_⟩) ?_
          rotate_left
          · intro w
            go_simp
            with_reducible rfl
          refine wpAny_take (i := 8) (v := ?_) rfl (by kernel_rfl) (by kernel_rfl) (by kernel_rfl) (fun _ _ _ h => h) (Or.inl ⟨by kernel_rfl, ?_⟩) ?_
          rotate_left
          · intro w
            go_simp
            with_reducible rfl
          refine wpAny_take (i := 9) (v := ?_) rfl (by kernel_rfl) (by kernel_rfl) (by kernel_rfl) (fun _ _ _ h => h) (Or.inl ⟨by kernel_rfl, ?_⟩) ?_
          rotate_left
          · intro w
            go_simp
            with_reducible rfl
          refine wpAny_take (i := 10) (v := ?_) rfl (by kernel_rfl) (by kernel_rfl) (by kernel_rfl) (fun _ _ _ h => h) (Or.inl ⟨by kernel_rfl, ?_⟩) ?_
          rotate_left
          · intro w
            go_simp
            with_reducible rfl
          refine wpAny_take (i := 11) (v := ?_) rfl (by kernel_rfl) (by kernel_rfl) (by kernel_rfl) (fun _ _ _ h => h) (Or.inl ⟨by kernel_rfl, ?_⟩) ?_
          rotate_left
          · intro w
            go_simp
            with_reducible rfl
          refine wpAny_take (i := 12) (v := ?_) rfl (by kernel_rfl) (by kernel_rfl) (by kernel_rfl) (fun _ _ _ h => h) (Or.inl ⟨by kernel_rfl, ?_⟩) ?_
          rotate_left
          · intro w
            go_simp
            with_reducible rfl
          refine wpAny_take (i := 13) (v := ?_) rfl (by kernel_rfl) (by kernel_rfl) (by kernel_rfl) (fun _ _ _ h => h) (Or.inl ⟨by kernel_rfl, ?_⟩) ?_
          rotate_left
          · intro w
            go_simp
            with_reducible rfl
          refine wpAny_take (i := 14) (v := ?_) rfl (by kernel_rfl) (by kernel_rfl) (by kernel_rfl) (fun _ _ _ h => h) (Or.inl ⟨by kernel_rfl, ?_⟩) ?_
          rotate_left
          · intro w
            go_simp
            with_reducible rfl
          refine wpAny_take (i := 16) (v := ?_) rfl (by kernel_rfl) (by kernel_rfl) (by kernel_rfl) (fun _ _ _ h => h) (Or.inl ⟨by kernel_rfl, ?_⟩) ?_
          rotate_left
          · intro w
            go_simp
            with_reducible rfl
          refine wpAny_take (i := 17) (v := ?_) rfl (by kernel_rfl) (by kernel_rfl) (by kernel_rfl) (fun _ _ _ h => h) (Or.inl ⟨by kernel_rfl, ?_⟩) ?_
          rotate_left
          · intro w
            go_simp
            with_reducible rfl
          refine wpAny_take (i := 18) (v := ?_) rfl (by kernel_rfl) (by kernel_rfl) (by kernel_rfl) (fun _ _ _ h => h) (Or.inl ⟨by kernel_rfl, ?_⟩) ?_
          rotate_left
          · intro w
            go_simp
            with_reducible rfl
          refine wpAny_take (i := 19) (v := ?_) rfl (by kernel_rfl) (by kernel_rfl) (by kernel_rfl) (fun _ _ _ h => h) (Or.inl ⟨by kernel_rfl, ?_⟩) ?_
          rotate_left
          · intro w
            go_simp
            with_reducible rfl
          refine wpAny_ready (rs := [15]) (by kernel_rfl) (by simp) ?_
          refine AllReady.cons rfl (fun K hK => ?_) AllReady.nil
          go_simp
          refine (put_any _ _).mono ?_
          rintro e w4 ⟨v4, rfl, hown4, hb4⟩
          refine hK _ _ ?_
          clear hK K
          refine wpAny_ready (rs := [20]) (by kernel_rfl) (by simp) ?_
          refine AllReady.cons rfl (fun K hK => ?_) AllReady.nil
          go_simp
          refine (bytes_b _ _ _ _ _ (Sl.owned hown4) (Sl.below (w := w3.drew) (T3.sub p k (by omega)) hb4) true (unhide HD)).mono ?_
          rintro e w5 ⟨rfl, hb5⟩
          refine hK _ _ ?_
          clear hK K
          refine wpAny_take (i := 21) (v := ?_) rfl (by kernel_rfl) (by kernel_rfl) (by kernel_rfl) (fun _ _ _ h => h) (Or.inl ⟨by kernel_rfl, ?_⟩) ?_
          rotate_left
          · intro w
            go_simp
            with_reducible rfl
          refine wpAny_take (i := 22) (v := ?_) rfl (by kernel_rfl) (by kernel_rfl) (by kernel_rfl) (fun _ _ _ h => h) (Or.inl ⟨by kernel_rfl, ?_⟩) ?_
          rotate_left
          · intro w
            go_simp
            with_reducible rfl
          refine wpAny_done (by kernel_rfl) ?_ _
          go_wp2_with fail
          go_meet
          case rel => exact ⟨rfl, below_trans' (below_trans' (Below.refl w3.heap.size w3).drew hb4) hb5⟩
        case rest =>
          obtain ⟨rfl, hb6⟩ := hcut
          have B6 := below_trans' B3 hb6
          have S6 := S3.below hb6
          have T6 := T3.below hb6
          clear hsl t1 t2 t3 t4 HD B3 S3 T3 hb6
          cases hrp : V.readP l p with
          | none =>
            have hr := HR.out
            rw [read_none hp hrp] at hr
            simp only [Prod.mk.injEq] at hr
            obtain ⟨rfl, rfl, rfl⟩ := hr
            clear HR hrp
            go_wp2
            go_ret
            exact ⟨rfl, B6⟩
          | some y =>
            obtain ⟨xs, q⟩ := y
            have hr := HR.out
            rw [read_some hp hrp] at hr
            simp only [Prod.mk.injEq] at hr
            obtain ⟨rfl, rfl, rfl⟩ := hr
            obtain ⟨q1, q2, q3, q4⟩ := V.readP_back b hp hrp
            have eA : V.riseA r1 = (l.drop p).take (q - p) := by rw [V.riseA, if_pos q3, q4]
            have eE : V.riseE r1 = 0 := if_pos q3
            have EA := hide eA
            have EE := hide eE
            have hsl := Try.slice_u8 b0 off l.length cap p (q - p) (p : Int) (q : Int) rfl (by omega) (by omega) (by omega)
            have t1 : decide ((q : Int) ≤ (l.length : Int)) = true := by simp; omega
            have t2 : decide ((p : Int) < (q : Int)) = true := by simp; omega
            clear HR hrp eA eE q3 q4
            go_wp2_with fail
            refine (rise_any _ r1 _ S6).mono ?_
            rintro e w7 ⟨v7, rfl, hown7, hb7⟩
            rw [unhide EA] at hown7
            rw [unhide EE]
            have B7 := below_trans' B6 hb7
            have P7 := Sl.owned hown7
            have T7 := T6.below hb7
            clear B6 T6 S6 hown7 hb7 EA EE
            go_wp2_with fail
            refine (bytes_b _ _ _ _ _ P7 (T7.sub p (q - p) (by omega)) true (by simp)).mono ?_
            rintro e w8 ⟨rfl, hb8⟩
            have B8 := below_trans' B7 hb8
            go_wp2
            go_ret
            exact ⟨ret_true (by simp), B8⟩
end Go.Proofs.Ytfhgcofbomcfoaa
