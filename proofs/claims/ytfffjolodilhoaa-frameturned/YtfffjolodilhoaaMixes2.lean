/-
  Of three rows of as many bytes that are laid over one another the sum is that of theirs: the walk of FrameMixes.
-/
import Derived.Test.YtfffjolodilhoaaAwake2
import Derived.Test.YtfffjolodilhoaaPlainMix
import Derived.Deep.RegionHeld3
import Derived.Deep.AppendLies
namespace Go.Proofs.Ytfffjolodilhoaa
open Go.RowKit

theorem wraps_u8' (n : Int) (h₀ : 0 ≤ n) (h₁ : n < 2 ^ 8) : IntKind.u8.wrap n = n := by rw [IntKind.wrap_u8]; omega
theorem xor_u8 {a b : Int} (ha : 0 ≤ a ∧ a ≤ 255) (hb : 0 ≤ b ∧ b ≤ 255) : bits .xor .u8 a b = C.x2 a b := by
  obtain ⟨x, rfl⟩ := Int.eq_ofNat_of_zero_le ha.1
  obtain ⟨y, rfl⟩ := Int.eq_ofNat_of_zero_le hb.1
  have hx : x % 2 ^ IntKind.u8.bits = x := Nat.mod_eq_of_lt (show x < 2 ^ 8 by omega)
  have hy : y % 2 ^ IntKind.u8.bits = y := Nat.mod_eq_of_lt (show y < 2 ^ 8 by omega)
  have h : x ^^^ y < 2 ^ 8 := Nat.xor_lt_two_pow (by omega) (by omega)
  simp only [bits, BitVec.ofInt_natCast, BitVec.toNat_xor, BitVec.toNat_ofNat, hx, hy, C.x2, Int.toNat_natCast]
  exact wraps_u8' _ (by omega) (by omega)

/-- A region that draws its order, and calls what makes memory, but answers the same in every world that has grown: walked once, in the order of the text. -/
theorem region_below {P : Program} {id : Nat} {Q : Exit → Act → World → Prop} {a : Act} {w : World} {l : List Oper} (hm : P.follows .mixedOrders = true) (hB : Region.lexB .any l.toArray = true)
    (h : wpQuiet P l.toArray (fun w' => Below w.heap.size w w') (fun a' => ∀ w', Below w.heap.size w w' → Q .normal a' w') l a) : (Code.region id l.toArray true).wp P Q a w :=
  wp_region_quiet (C := fun w' => Below w.heap.size w w') hm hB (Below.refl w.heap.size w).drew (by simpa using h)

set_option maxRecDepth 100000 in
set_option maxHeartbeats 3200000 in
theorem frameMixes_walk (va vb vc : Value) (la lb lc : List Int) (w : World) (sa : Sl .u8 w va la) (sb : Sl .u8 w vb lb) (sc : Sl .u8 w vc lc) (ba : V.Byt la) (bb : V.Byt lb) (bc : V.Byt lc) :
    Calls Try.prog 7 #[va, vb, vc] w fun e w' => e = .returned (.bool true) ∧ Below w.heap.size w w' := by
  obtain ⟨i0, hi, hz0, hz1, hz2⟩ := info_parts Try.info5
  go_enter Try.func7, Try.ntmps7
  go_wp2_with fail
  refine (awake2_any _).mono ?_
  rintro e w1 ⟨rfl, B1⟩
  have SA := sa.below B1
  have SB := sb.below B1
  have SC := sc.below B1
  clear sa sb sc
  obtain ⟨aa, ca, rfl, lla, ma, na, oa⟩ := SA.open
  obtain ⟨ab, cb, rfl, llb, mb, nb, ob⟩ := SB.open
  obtain ⟨ac, cc, rfl, llc, mc, nc, oc⟩ := SC.open
  clear na nb nc
  by_cases h2 : 2000 < la.length
  · clear oa ob oc
    go_wp2
    go_ret
    exact ⟨rfl, B1⟩
  · have h2' : decide (2000 < (la.length : Int)) = false := by simp; omega
    by_cases hbs : lb.length < la.length
    · clear oa ob oc
      have hbs' : decide ((lb.length : Int) < (la.length : Int)) = true := by simp; omega
      go_wp2
      go_ret
      exact ⟨rfl, B1⟩
    · have hbs' : decide ((lb.length : Int) < (la.length : Int)) = false := by simp; omega
      by_cases hcs : lc.length < la.length
      · clear oa ob oc
        have hcs' : decide ((lc.length : Int) < (la.length : Int)) = true := by simp; omega
        go_wp2
        go_ret
        exact ⟨rfl, B1⟩
      · have hcs' : decide ((lc.length : Int) < (la.length : Int)) = false := by simp; omega
        go_wp2
        go_loopw [8, 9] (fun v i wr => ∃ k : Nat, k ≤ la.length ∧ i = .int .i64 k ∧ wr.ownsRow w1.heap.size 5 1 v (C.mix (la.take k) (lb.take k) (lc.take k)).length ((C.mix (la.take k) (lb.take k) (lc.take k)).map (Value.int .u8)) ∧ Below w1.heap.size w1 wr) (fun _ i _ => la.length - (intOf i).toNat)
        case atStart => exact ⟨0, Nat.zero_le _, rfl, by simpa [C.mix] using World.ownsRow_nil _ _ _ _, Below.refl _ _⟩
        case round =>
          obtain ⟨k, hk, rfl, hown, hbel⟩ := hrel
          by_cases hlt : k < la.length
          · have hltb : k < lb.length := by omega
            have hltc : k < lc.length := by omega
            obtain ⟨b1, f1, rfl, x1, ka⟩ := oa (by omega)
            obtain ⟨b2, f2, rfl, x2, kb⟩ := ob (by omega)
            obtain ⟨b3, f3, rfl, x3, kc⟩ := oc (by omega)
            obtain ⟨p, hp⟩ : ∃ p, p = la[k] := ⟨_, rfl⟩
            obtain ⟨q, hq⟩ : ∃ q, q = lb[k] := ⟨_, rfl⟩
            obtain ⟨r, hr⟩ : ∃ r, r = lc[k] := ⟨_, rfl⟩
            have k1 : wr.cell? ⟨b1, f1 + k, none⟩ = some (.int .u8 p) := by rw [hbel.cell x1, ka k hlt, hp]; simp [hlt]
            have k2 : wr.cell? ⟨b2, f2 + k, none⟩ = some (.int .u8 q) := by rw [hbel.cell x2, kb k hltb, hq]; simp [hltb]
            have k3 : wr.cell? ⟨b3, f3 + k, none⟩ = some (.int .u8 r) := by rw [hbel.cell x3, kc k hltc, hr]; simp [hltc]
            have bp := ba p (by rw [hp]; exact List.getElem_mem _)
            have bq := bb q (by rw [hq]; exact List.getElem_mem _)
            have br := bc r (by rw [hr]; exact List.getElem_mem _)
            have HP := hide hp
            have HQ := hide hq
            have HR := hide hr
            have hk0 : (0 : Int) ≤ (k : Int) := Int.natCast_nonneg _
            have hk1 : (k : Int) < (la.length : Int) := by omega
            have hk2 : (k : Int) < (lb.length : Int) := by omega
            have hk3 : (k : Int) < (lc.length : Int) := by omega
            have hml : (C.mix (la.take k) (lb.take k) (lc.take k)).length ≤ 2000 := by
              rw [C.mix_len _ _ _ (by simp; omega) (by simp; omega)]; simp; omega
            have hxx : bits .xor .u8 (bits .xor .u8 p q) r = C.x2 (C.x2 p q) r := by rw [xor_u8 bp bq, xor_u8 (C.x2_byt bp bq) br]
            have HX := hide hxx
            have hBs := hbel.size
            clear ka kb kc oa ob oc hp hq hr hxx
            have ag1 : u8.ownBlock ≠ some b1 := fun h => by have := (hown.lt _ h).1; omega
            have ag2 : u8.ownBlock ≠ some b2 := fun h => by have := (hown.lt _ h).1; omega
            have ag3 : u8.ownBlock ≠ some b3 := fun h => by have := (hown.lt _ h).1; omega
            go_wp2_with fail
            go_region_held3 (fun w' => w'.cell? ⟨b1, f1 + k, none⟩ = some (.int .u8 p) ∧ w'.cell? ⟨b2, f2 + k, none⟩ = some (.int .u8 q) ∧ w'.cell? ⟨b3, f3 + k, none⟩ = some (.int .u8 r))
              (first
                | go_keep
                | (go_split_ands
                   refine ⟨?_, ?_, ?_⟩
                   · (rw [hgrow.cell_far _ (by simp; omega) (Ne.symm ag1)]; assumption)
                   · (rw [hgrow.cell_far _ (by simp; omega) (Ne.symm ag2)]; assumption)
                   · (rw [hgrow.cell_far _ (by simp; omega) (Ne.symm ag3)]; assumption)))
              ((refine step_append_lies _ (by rfl) _ _ _ (by rfl) w1.heap.size 5 i0 _ 1 1 Try.underlying22 hi hz0 hz1 hz2 rfl (by omega) u8 _ _ (by rfl) ((hown.alloc _).drew)
                  ⟨wr.heap.size, 0, none⟩ 1 1 [.int .u8 (bits .xor .u8 (bits .xor .u8 p q) r)] (by rfl) (by rfl) (World.news_of_block (cs := #[.int .u8 (bits .xor .u8 (bits .xor .u8 p q) r)]) (t := 5) (fr := (0, 0)) (heap_alloc_new wr _)) (by simp [Value.oneCell'])
                  (by omega) (by unfold maxLen; omega) (by omega) (by simp; omega) (wr.heap.size + 1) (by simp) ?_; intro gg cap w2 hown2 hgrow hat hlt2))
            go_wp2
            go_roundw
            case rel =>
              refine ⟨k + 1, by omega, by go_num, ?_, ?_⟩
              · rw [C.mix_take hlt hltb hltc, ← unhide HP, ← unhide HQ, ← unhide HR, ← unhide HX, List.length_append, List.map_append]
                exact hown2
              · exact ((hbel.alloc hBs _).drew).grown hgrow (by simp; omega) (fun j hj => (hown.lt j hj).1)
            case measure => simp [intOf]; omega
          · have hkl : k = la.length := by omega
            have X0 := Sl.owned hown
            rw [hkl, List.take_length] at X0
            have A0 := SA.below hbel
            have B0 := (SB.below hbel).take la.length (by omega)
            have C0 := (SC.below hbel).take la.length (by omega)
            have BB := below_trans' B1 hbel
            have hsm : C.sum (C.mix la (lb.take la.length) (lc.take la.length)) = C.sum la ^^^ C.sum (lb.take la.length) ^^^ C.sum (lc.take la.length) :=
              C.sum_mix ba (bb.take _) (bc.take _) (by simp; omega) (by simp; omega)
            have HS := hide hsm
            have bm := C.mix_byt la (lb.take la.length) (lc.take la.length) ba (bb.take _) (bc.take _)
            have x1 := xor_u32 (C.sum la) (C.sum (lb.take la.length)) (C.sum_lt _) (C.sum_lt _)
            have x2 := xor_u32 (C.sum la ^^^ C.sum (lb.take la.length)) (C.sum (lc.take la.length)) (C.xor_lt (C.sum_lt _) (C.sum_lt _)) (C.sum_lt _)
            have HX1 := hide x1
            have HX2 := hide x2
            have hcb : la.length ≤ cb := by omega
            have hcc : la.length ≤ cc := by omega
            clear oa ob oc hown hsm hkl x1 x2
            go_wp2_with fail
            refine region_below (by kernel_rfl) (by kernel_rfl) ?_
            refine wpQuiet_step (fun K hK => ?_)
            go_simp
            refine ⟨_, fun _ _ => rfl, hK _ ?_⟩
            clear hK K
            refine wpQuiet_step (fun K hK => ?_)
            go_simp
            refine ⟨.int .u32 (C.sum (C.mix la (lb.take la.length) (lc.take la.length))), fun w' hw' => ?_, hK _ ?_⟩
            · exact (sum_any _ _ _ (X0.below hw') bm).mono fun e w'' ⟨h1, h2⟩ => ⟨h1, below_trans' hw' h2⟩
            clear hK K
            refine wpQuiet_step (fun K hK => ?_)
            go_simp
            refine ⟨_, fun _ _ => rfl, hK _ ?_⟩
            clear hK K
            refine wpQuiet_step (fun K hK => ?_)
            go_simp
            refine ⟨.int .u32 (C.sum la), fun w' hw' => ?_, hK _ ?_⟩
            · exact (sum_any _ _ _ (A0.below hw') ba).mono fun e w'' ⟨h1, h2⟩ => ⟨h1, below_trans' hw' h2⟩
            clear hK K
            refine wpQuiet_step (fun K hK => ?_)
            go_simp
            refine ⟨_, fun _ _ => rfl, hK _ ?_⟩
            clear hK K
            refine wpQuiet_step (fun K hK => ?_)
            go_simp
            refine ⟨_, fun _ _ => rfl, hK _ ?_⟩
            clear hK K
            refine wpQuiet_step (fun K hK => ?_)
            go_simp
            refine ⟨_, fun _ _ => rfl, hK _ ?_⟩
            clear hK K
            refine wpQuiet_step (fun K hK => ?_)
            go_simp
            refine ⟨.int .u32 (C.sum (lb.take la.length)), fun w' hw' => ?_, hK _ ?_⟩
            · exact (sum_any _ _ _ (B0.below hw') (bb.take _)).mono fun e w'' ⟨h1, h2⟩ => ⟨h1, below_trans' hw' h2⟩
            clear hK K
            refine wpQuiet_step (fun K hK => ?_)
            go_simp
            refine ⟨_, fun _ _ => rfl, hK _ ?_⟩
            clear hK K
            refine wpQuiet_step (fun K hK => ?_)
            go_simp
            refine ⟨_, fun _ _ => rfl, hK _ ?_⟩
            clear hK K
            refine wpQuiet_step (fun K hK => ?_)
            go_simp
            refine ⟨_, fun _ _ => rfl, hK _ ?_⟩
            clear hK K
            refine wpQuiet_step (fun K hK => ?_)
            go_simp
            refine ⟨_, fun _ _ => rfl, hK _ ?_⟩
            clear hK K
            refine wpQuiet_step (fun K hK => ?_)
            go_simp
            refine ⟨.int .u32 (C.sum (lc.take la.length)), fun w' hw' => ?_, hK _ ?_⟩
            · exact (sum_any _ _ _ (C0.below hw') (bc.take _)).mono fun e w'' ⟨h1, h2⟩ => ⟨h1, below_trans' hw' h2⟩
            clear hK K
            refine wpQuiet_step (fun K hK => ?_)
            go_simp
            refine ⟨_, fun _ _ => rfl, hK _ ?_⟩
            clear hK K
            refine wpQuiet_step (fun K hK => ?_)
            go_simp
            refine ⟨_, fun _ _ => rfl, hK _ ?_⟩
            clear hK K
            refine wpQuiet_step (fun K hK => ?_)
            go_simp
            refine ⟨_, fun _ _ => rfl, hK _ ?_⟩
            clear hK K
            refine wpQuiet_nil ?_
            intro w9 hb9
            have B9 := below_trans' BB hb9
            go_wp2
            go_ret
            exact ⟨ret_true (by rw [unhide HX1, unhide HX2, unhide HS]; simp), B9⟩
end Go.Proofs.Ytfffjolodilhoaa
