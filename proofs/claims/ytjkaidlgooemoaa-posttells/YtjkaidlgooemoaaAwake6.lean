/-
  The chapter's example holds: the contract of the statements' own 'awake'.
-/
import Derived.Test.YtjkaidlgooemoaaLawB6
namespace Go.Proofs.Ytjkaidlgooemoaa
open Go.RowKit

theorem ex_put1 : Q.putA [] 3 2 = [⟨3, [2]⟩] := by kernel_rfl
theorem ex_put1e : Q.putE [] 3 2 = 0 := by kernel_rfl
theorem ex_put2 : Q.putA [⟨3, [2]⟩] 3 0 = [⟨3, [0, 2]⟩] := by kernel_rfl
theorem ex_put2e : Q.putE [⟨3, [2]⟩] 3 0 = 0 := by kernel_rfl
theorem ex_may : Q.may [⟨3, [0, 2]⟩] = true := by kernel_rfl
theorem ex_pack : Q.packA [⟨3, [0, 2]⟩] = [1, 3, 4, 3, 2, 0, 1] := by kernel_rfl
theorem ex_packe : Q.packE [⟨3, [0, 2]⟩] = 0 := by kernel_rfl
theorem ex_unp : Q.unp [1, 3, 4, 3, 2, 0, 1] = some [⟨3, [0, 2]⟩] := by
  have h := Q.unp_bytes ex_may
  rw [show Q.bytes [⟨3, [0, 2]⟩] = [1, 3, 4, 3, 2, 0, 1] by kernel_rfl] at h
  exact h
theorem ex_unpA : Q.unpA [1, 3, 4, 3, 2, 0, 1] = [⟨3, [0, 2]⟩] := (Q.unp_yes ex_unp).1
theorem ex_unpE : Q.unpE [1, 3, 4, 3, 2, 0, 1] = 0 := (Q.unp_yes ex_unp).2
theorem ex_seek : Q.seekP [1, 3, 4, 3, 2, 0, 1] 2 = ⟨3, [0, 2]⟩ ∧ Q.seekN [1, 3, 4, 3, 2, 0, 1] 2 = ((0 / 4 : Nat) : Int) ∧ Q.seekE [1, 3, 4, 3, 2, 0, 1] 2 = 0 := Q.seek_at (Q.unp_yes ex_unp) (by kernel_rfl) rfl
theorem ex_find : Q.find [⟨3, [0, 2]⟩] 3 = 0 := by kernel_rfl
theorem ex_byt : V.Byt [1, 3, 4, 3, 2, 0, 1] := byt_of (by decide)

theorem lit7 (w : World) (g : Nat) (hg : w.heap.size = g) (bs : List Int) (hb : bs = [1, 3, 4, 3, 2, 0, 1]) : Sl .u8 (w.alloc (.cells #[.int .u8 1, .int .u8 3, .int .u8 4, .int .u8 3, .int .u8 2, .int .u8 0, .int .u8 1] 5)) (.slice (some ⟨g, 0, none⟩) 7 7) bs := by
  subst hg hb
  exact Sl.lit _ rfl rfl (by omega)

set_option maxHeartbeats 4000000 in
theorem awake_any (w : World) : Calls Try.prog 10 #[] w fun e w' => e = .returned (.bool true) ∧ Below w.heap.size w w' := by
  obtain ⟨bs, hbs⟩ : ∃ bs : List Int, bs = [1, 3, 4, 3, 2, 0, 1] := ⟨_, rfl⟩
  obtain ⟨L1, hL1⟩ : ∃ L1 : List Pt, L1 = [⟨3, [2]⟩] := ⟨_, rfl⟩
  obtain ⟨L2, hL2⟩ : ∃ L2 : List Pt, L2 = [⟨3, [0, 2]⟩] := ⟨_, rfl⟩
  have f1 : Fits L1 := by rw [hL1]; exact ⟨by decide, fun p hp => by simp at hp; subst hp; decide⟩
  have K1 := hide (pput_b (.slice none 0 0) [] 3 2 w (Pl.nil w) ⟨by decide, fun p hp => by simp at hp⟩ L1 0 (by rw [hL1]; exact ex_put1) ex_put1e)
  have K2 := hide (fun v w' (P : Pl w' v L1) => pput_b v L1 3 0 w' P f1 L2 0 (by rw [hL1, hL2]; exact ex_put2) (by rw [hL1]; exact ex_put2e))
  have K3 := hide (fun v w' (P : Pl w' v L2) => pack_b v L2 w' P bs 0 (by rw [hL2, hbs]; exact ex_pack) (by rw [hL2]; exact ex_packe))
  have K4 := hide (fun v w' (S : Sl .u8 w' v bs) => unpack_b v bs w' S (by rw [hbs]; exact ex_byt) (by rw [hbs]; decide) L2 0 (by rw [hL2, hbs]; exact ex_unpA) (by rw [hbs]; exact ex_unpE))
  have K5 := hide (fun v w' (S : Sl .u8 w' v bs) => seek_b v bs 2 w' S (by rw [hbs]; exact ex_byt) (by rw [hbs]; decide) 3 [0, 2] 0 0 (by rw [hbs]; exact ex_seek.1) (by rw [hbs]; exact ex_seek.2.1) (by rw [hbs]; exact ex_seek.2.2))
  have K6 := hide (fun v w' (P : Pl w' v L2) => may_b v L2 w' P true (by rw [hL2]; exact ex_may))
  have K7 := hide (fun v w' (P : Pl w' v L2) => find_b v L2 3 w' P 0 (by rw [hL2]; exact ex_find))
  have KL := hide (fun w' g (hg : w'.heap.size = g) => lit7 w' g hg bs hbs)
  clear hbs hL1 hL2 f1
  go_enter Try.func10, Try.ntmps10
  go_wp2_with fail
  refine (unhide K1).mono ?_
  rintro e w1 ⟨a1, n1, c1, rfl, P1, B1⟩
  go_wp2_with fail
  refine (unhide K2 _ _ P1).mono ?_
  rintro e w2 ⟨a2, n2, c2, rfl, P2, B2⟩
  have BB := below_trans' B1 B2
  clear P1 B1 B2
  go_wp2_with fail
  refine (unhide K3 _ _ P2).mono ?_
  rintro e w3 ⟨a3, c3, rfl, S3, B3⟩
  replace BB := below_trans' BB B3
  replace P2 := P2.below B3
  have SL := unhide KL w3 _ rfl
  clear B3
  go_wp2_with fail
  refine (unhide K4 _ _ SL).mono ?_
  rintro e w4 ⟨a4, c4, rfl, P4, B4⟩
  replace B4 := below_trans' (below_alloc w3 _) B4
  replace BB := below_trans' BB B4
  replace P2 := P2.below B4
  replace S3 := S3.below B4
  clear B4 SL
  go_wp2_with fail
  refine (unhide K5 _ _ S3).mono ?_
  rintro e w5 ⟨a5, m5, c5, rfl, S5, B5⟩
  replace BB := below_trans' BB B5
  replace P2 := P2.below B5
  replace P4 := P4.below B5
  replace S3 := S3.below B5
  clear B5 S5
  obtain ⟨W, hW⟩ : ∃ W, W = (w5.alloc (.cells #[.int .i64 3, .slice a5 m5 c5] 39)) := ⟨_, rfl⟩
  have BW : Below w5.heap.size w5 W := by rw [hW]; exact below_alloc _ _
  have bx : W.cell? ⟨w5.heap.size, 0, none⟩ = some (.int .i64 3) := by rw [hW]; simp
  have SL := unhide KL W (w5.heap.size + 1) (by rw [hW]; simp)
  have HW := hide hW
  clear hW
  go_wp2_with fail
  rw [← unhide HW]
  have BL := below_trans' BW (below_alloc W (.cells #[.int .u8 1, .int .u8 3, .int .u8 4, .int .u8 3, .int .u8 2, .int .u8 0, .int .u8 1] 5))
  refine (bytes_b _ _ bs bs _ (S3.below BL) SL true (by simp)).mono ?_
  rintro e w6 ⟨rfl, B6⟩
  have B6' := below_trans' (below_alloc W _) B6
  have x6 := cell_keep bx B6'
  replace B6 := below_trans' BL B6
  replace BB := below_trans' BB B6
  replace P2 := P2.below B6
  replace P4 := P4.below B6
  clear B6 B6' S3 SL bx BL BW
  go_wp2_with fail
  refine (rsame_b _ _ L2 L2 _ P4 P2 true (Pt.eqs_refl _)).mono ?_
  rintro e w7 ⟨rfl, B7⟩
  have x7 := cell_keep x6 B7
  replace BB := below_trans' BB B7
  replace P2 := P2.below B7
  replace P4 := P4.below B7
  clear B7 x6
  go_wp2_with fail
  refine (unhide K6 _ _ P2).mono ?_
  rintro e w8 ⟨rfl, B8⟩
  replace BB := below_trans' BB B8
  replace P2 := P2.below B8
  replace P4 := P4.below B8
  clear B8 x7
  go_wp2_with fail
  refine (unhide K7 _ _ P2).mono ?_
  rintro e w9 ⟨rfl, B9⟩
  replace BB := below_trans' BB B9
  replace P2 := P2.below B9
  replace P4 := P4.below B9
  clear B9
  go_wp2_with fail
  refine (same_b _ _ L2 L2 _ P2 P4 true (Pt.eqs_refl _)).mono ?_
  rintro e w10 ⟨rfl, B10⟩
  replace BB := below_trans' BB B10
  go_wp2
  go_ret
  exact ⟨rfl, BB⟩
end Go.Proofs.Ytjkaidlgooemoaa
