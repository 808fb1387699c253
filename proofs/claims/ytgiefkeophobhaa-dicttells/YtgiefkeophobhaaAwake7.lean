/-
  The chapter's example holds: the contract of the statements' own 'awake' (dict).
-/
import Derived.Test.YtgiefkeophobhaaLawB7
namespace Go.Proofs.Ytgiefkeophobhaa
open Go.RowKit

theorem lit3 (w : World) (ls : List ByteArray) (hl : ls = exL) : Gl Value.string (w.alloc (.cells #[.string ⟨#[97, 110]⟩, .string ⟨#[97, 110, 100]⟩, .string ⟨#[98]⟩] 9)) (.slice (some ⟨w.heap.size, 0, none⟩) 3 3) ls := by
  subst hl
  exact Gl.lit (f := Value.string) exL rfl rfl (by omega)
theorem lit11 (w : World) (bs : List Int) (hb : bs = [3, 0, 2, 97, 110, 2, 1, 100, 0, 1, 98]) : Sl .u8 (w.alloc (.cells #[.int .u8 3, .int .u8 0, .int .u8 2, .int .u8 97, .int .u8 110, .int .u8 2, .int .u8 1, .int .u8 100, .int .u8 0, .int .u8 1, .int .u8 98] 5)) (.slice (some ⟨w.heap.size, 0, none⟩) 11 11) bs := by
  subst hb
  exact Sl.lit _ rfl rfl (by omega)
theorem cut_tail {w : World} {g : Nat} (h : Gl Value.string w (.slice (some ⟨g, 0, none⟩) 3 3) exL) : Gl Value.string w (sv (some ⟨g, 1, none⟩, 2, 2)) [⟨#[97, 110, 100]⟩, ⟨#[98]⟩] := by
  have := Gl.cut (L := exL) h 1 3 (by omega) (by decide)
  exact this
theorem cut_head {w : World} {g : Nat} (h : Gl Value.string w (.slice (some ⟨g, 0, none⟩) 3 3) exL) : Gl Value.string w (sv (some ⟨g, 0, none⟩, 2, 3)) [⟨#[97, 110]⟩, ⟨#[97, 110, 100]⟩] := by
  have := Gl.cut (L := exL) h 0 2 (by omega) (by decide)
  exact this

theorem two_lit (g : Nat) (w : World) (G : Gl Value.string (w.alloc (.cells #[.slice (some ⟨g, 1, none⟩) 2 2, .slice (some ⟨g, 0, none⟩) 2 3] 22)) (.slice (some ⟨g, 0, none⟩) 3 3) exL) :
    Ll (w.alloc (.cells #[.slice (some ⟨g, 1, none⟩) 2 2, .slice (some ⟨g, 0, none⟩) 2 3] 22)) (.slice (some ⟨w.heap.size, 0, none⟩) 2 2) [[⟨#[97, 110, 100]⟩, ⟨#[98]⟩], [⟨#[97, 110]⟩, ⟨#[97, 110, 100]⟩]] :=
  ⟨[(some ⟨g, 1, none⟩, 2, 2), (some ⟨g, 0, none⟩, 2, 3)], Gl.lit (f := sv) [(some ⟨g, 1, none⟩, 2, 2), (some ⟨g, 0, none⟩, 2, 3)] rfl rfl (by omega), As.two (cut_tail G) (cut_head G)⟩

set_option maxRecDepth 100000 in
set_option maxHeartbeats 8000000 in
theorem awake_any (w : World) : Calls Try.prog 10 #[] w fun e w' => e = .returned (.bool true) ∧ Below w.heap.size w w' := by
  obtain ⟨bs, hbs⟩ : ∃ bs : List Int, bs = [3, 0, 2, 97, 110, 2, 1, 100, 0, 1, 98] := ⟨_, rfl⟩
  obtain ⟨L, hL⟩ : ∃ L : List ByteArray, L = exL := ⟨_, rfl⟩
  have hb : V.Byt bs := by rw [hbs]; exact byt_of (by decide)
  have K1 := hide (fun v w' (G : Gl .string w' v L) => pack_b v L w' G bs (by rw [hL, hbs]; exact ex_pack))
  have K2 := hide (fun v w' (S : Sl .u8 w' v bs) => unpack_b v bs w' S hb L 0 (by rw [hL, hbs]; exact ex_unp))
  have K3 := hide (fun v w' (G : Gl .string w' v L) => may_b v L w' G true (by rw [hL]; exact ex_may))
  have K4 := hide (fun v w' (G : Gl .string w' v L) => find_b v L ⟨#[98]⟩ w' G 2 (by rw [hL]; exact ex_find))
  have K5 := hide (fun v w' (G : Gl .string w' v L) => bel_b v L ⟨#[98]⟩ w' G 2 (by rw [hL]; exact ex_bel))
  have K6 := hide (fun g w' (G : Gl .string (w'.alloc (.cells #[.slice (some ⟨g, 1, none⟩) 2 2, .slice (some ⟨g, 0, none⟩) 2 3] 22)) (.slice (some ⟨g, 0, none⟩) 3 3) L) => or_b _ _ _ (two_lit g w' (by rw [← hL]; exact G)) (by decide) L (by rw [hL]; exact ex_or))
  have KL := hide (fun w' => lit3 w' L hL)
  have KB := hide (fun w' => lit11 w' bs hbs)
  clear hbs hL hb
  go_enter Try.func10, Try.ntmps10
  have G0 := unhide KL w
  go_wp2_with fail
  refine (unhide K1 _ _ G0).mono ?_
  rintro e w1 ⟨a1, c1, rfl, S1, B1⟩
  have G1 := G0.below B1
  have BB1 := below_trans' (below_alloc w _) B1
  clear G0 B1 KL
  go_wp2_with fail
  refine (unhide K2 _ _ S1).mono ?_
  rintro e w2 ⟨a2, c2, rfl, G2, B2⟩
  have BB2 := below_trans' BB1 B2
  have GL := G1.below B2
  have S2 := S1.below B2
  obtain ⟨g, hg⟩ : ∃ g, w.heap.size = g := ⟨_, rfl⟩
  rw [hg] at GL ⊢
  have HG := hide hg
  clear G1 S1 BB1 B2 K1 K2 hg
  go_wp2
  go_region_held3 (fun w' => Below w2.heap.size w2 w')
    (first
      | exact (Below.refl _ _).drew
      | exact below_trans' (by assumption) B9
      | exact below_trans' (by assumption) B8
      | exact below_trans' (by assumption) B7
      | exact below_trans' (by assumption) B6
      | exact below_trans' (by assumption) B5
      | exact below_trans' (by assumption) B4
      | exact below_trans' (by assumption) B3
      | exact below_all (by assumption) _)
    (first
      | (go_at_call 23; refine (bytes_b _ _ bs bs _ (S2.below (by assumption)) (Sl.drewN (unhide KB w2) 1) true (by simp)).mono ?_; rintro e w3 ⟨rfl, B3⟩)
      | (go_at_call 12; refine (unhide K3 _ _ (GL.below (by assumption))).mono ?_; rintro e w5 ⟨rfl, B5⟩)
      | (go_at_call 14; refine (unhide K4 _ _ (GL.below (by assumption))).mono ?_; rintro e w6 ⟨rfl, B6⟩)
      | (go_at_call 16; refine (unhide K5 _ _ (GL.below (by assumption))).mono ?_; rintro e w7 ⟨rfl, B7⟩)
      | (go_at_call 19; refine (unhide K6 _ _ (GL.below (by assumption))).mono ?_; rintro e w8 ⟨a8, c8, rfl, G8, B8⟩)
      | (go_at_call_of 18 (Value.slice a2 L.length c2); refine (texts_any _ _ L L _ (G2.below (by assumption)) (GL.below (by assumption)) true (by simp)).mono ?_; rintro e w4 ⟨rfl, B4⟩)
      | (go_at_call_of 18 (Value.slice a8 L.length c8); refine (texts_any _ _ L L _ G8 (GL.below (by assumption)) true (by simp)).mono ?_; rintro e w9 ⟨rfl, B9⟩))
  all_goals
    go_wp2
    go_ret
    refine ⟨rfl, ?_⟩
    exact below_trans' BB2 (by assumption)
end Go.Proofs.Ytgiefkeophobhaa
