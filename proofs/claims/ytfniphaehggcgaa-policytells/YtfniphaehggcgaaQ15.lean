/-
  Texts put together: Groups12, Runs12.
-/
import Derived.Test.YtfniphaehggcgaaQ13
import Derived.Deep.CutRange
import Derived.Deep.RegionLaw
/-
  The contracts of ofSurplus and ofLevels.
-/
namespace Go.Proofs.Ytfniphaehggcgaa
set_option maxRecDepth 100000
open Go.RowKit

def vlen : Value → Nat
  | .slice _ n _ => n
  | _ => 0
theorem sv_one12 (s : Pts) : (sv s).oneCell' = true := rfl
theorem zl_spot {w : World} {B : Nat} {v : Value} {n : Nat} {xs : List Value} {e : TypeId} {K : Nat} (h : w.ownsRow B e K v n xs) : ∃ a cap, v = .slice a n cap ∧ n ≤ cap ∧ cap ≤ 9223372036854775807 ∧ (∀ p, a = some p → p.spot = none) := by
  rcases own_form h with ⟨rfl, rfl⟩ | ⟨g, c, rfl, h1, h2, -⟩
  · exact ⟨none, 0, rfl, Nat.le_refl _, by omega, fun p hp => by cases hp⟩
  · exact ⟨_, c, rfl, h1, h2, fun p hp => by cases hp; rfl⟩

theorem Ty12.cut {T : TypeId} {w : World} {a : Option Addr} {n c m d : Nat} (h : Ty12 T w (.slice a n c)) : Ty12 T w (.slice a m d) := h.same (fun g hg => by cases a with
  | none => cases hg
  | some x => exact hg)
theorem Z.chunks_len (per : Nat) (most : Int) : ∀ (n : Nat) (l : List Sz), l.length ≤ n → (Z.chunks per most l).length ≤ l.length
  | 0, l, h => by
    rw [Z.chunks]
    split
    · omega
    · simp
  | n + 1, l, h => by
    rw [Z.chunks]
    split
    · rename_i h1
      have := Z.chunks_len per most n (l.drop per) (by rw [List.length_drop]; omega)
      rw [List.length_append, List.length_drop] at *
      have h2 : (if Z.lives (l.take per) ≤ most then [l.take per] else []).length ≤ 1 := by split <;> simp
      omega
    · simp
theorem Z.tierTo_len {per : Nat} {most : Int} {l : List Sz} (h : Z.Fit l) : ∀ k, (Z.tierTo per most l k).length ≤ k * 16
  | 0 => by simp [Z.tierTo]
  | k + 1 => by
    have h1 := Z.tierTo_len h (per := per) (most := most) k
    have h2 := Z.chunks_len per most _ (l.filter (Z.ofLv per k)) (Nat.le_refl _)
    have h3 := List.length_filter_le (Z.ofLv per k) l
    have := h.1
    rw [Z.tierTo_succ, List.length_append]
    omega

/-- One more list. -/
theorem LzO.snoc {B : Nat} {w w' : World} {v v' : Value} {us : List Pts} {gs : List (List Sz)} {s : Pts} {l : List Sz} (h1 : w.ownsRow B 22 1 v us.length (us.map sv)) (h2 : Gg Zl 36 w us gs) (hs : Zl w (sv s) l) (ht : Ty12 36 w (sv s))
    (ho : w'.ownsRow B 22 1 v' (us ++ [s]).length ((us ++ [s]).map sv)) (hg : w.grownBy w' v.ownBlock) : LzO B w' v' (gs ++ [l]) :=
  ⟨us ++ [s], ho, (Gg.grown (R := Zl) (fun h hg hne => Kl.keep12 h hg hne) h2 hg (fun x hx => (h2.ty hx).apart h1 (by decide))).snoc (Kl.keep12 hs hg (ht.apart h1 (by decide))) (ht.grown hg (ht.apart h1 (by decide)))⟩

theorem ofSurplus_any (v : Value) (L : List Sz) (per most segs : Int) (w : World) (h : Zl w v L) (hl : L.length ≤ 100000) (hs : 1 ≤ segs ∧ segs ≤ 9223372036854775807) :
    Calls Try.prog 60 #[v, bv per most segs] w fun e w' => ∃ v', e = .returned v' ∧ Lz w' v' (Z.forceG segs L) ∧ Below w.heap.size w w' := by
  unfold bv
  obtain ⟨W, hW⟩ : ∃ W, W = w.alloc (.cells #[.int .i64 per, .int .i64 most, .int .i64 segs] 52) := ⟨_, rfl⟩
  have BW : Below w.heap.size w W := by rw [hW]; exact below_alloc _ _
  have c2 : W.cell? ⟨w.heap.size, 2, none⟩ = some (.int .i64 segs) := by rw [hW]; exact box_cell (heap_alloc_new w _) rfl
  have eg : ∀ args w, (callFunc 46 args).run Try.prog w = .ok (.enter 46 args) w := enters_of Try.func46 (by kernel_rfl) rfl
  have CO := only_any 46 eg #[] Z.idle v L W (h.below BW) (by omega) (fun s _ w1 _ => idle_any s w1)
  obtain ⟨a, cap, rfl, -⟩ := h.open
  obtain ⟨F, hF⟩ : ∃ F, L.filter Z.idle = F := ⟨_, rfl⟩
  have hFl : F.length ≤ 100000 := by rw [← hF]; exact Nat.le_trans (List.length_filter_le _ _) hl
  have HG : Hid (Z.forceG segs L = if (F.length : Int) ≤ segs then [] else [F.take (F.length - segs.toNat + 1)]) := by show _ = _; rw [Z.forceG, hF]
  rw [hF] at CO
  obtain ⟨hs1, hs2⟩ := hs
  have HW := hide hW
  clear hW h hF eg
  go_enter Try.func60, Try.ntmps60
  go_wp2_with fail
  rw [← unhide HW]
  refine CO.mono ?_
  rintro e w1 ⟨v1, rfl, O1, B1⟩
  have c2 := cell_keep c2 B1
  have BB := below_trans' BW B1
  obtain ⟨a1, cap1, rfl, hc1, hc2, hsp⟩ := zl_spot O1
  have HO := hide O1
  clear CO O1 B1
  by_cases hle : (F.length : Int) ≤ segs
  · have HR := unhide HG
    rw [if_pos hle] at HR
    have HR2 := hide HR
    clear HR
    go_wp2
    go_ret
    rw [unhide HR2]
    exact ⟨_, rfl, (LzO.nil 0 _).lz, BB⟩
  · have HR := unhide HG
    rw [if_neg hle] at HR
    obtain ⟨m, hm⟩ : ∃ m, F.length - segs.toNat + 1 = m := ⟨_, rfl⟩
    rw [hm] at HR
    have hm2 : (F.length : Int) - segs + 1 = (m : Int) := by omega
    have R1 := Try.zto a1 F.length cap1 m ((F.length : Int) - segs + 1) hm2 (by omega) hsp
    have hmF : m ≤ F.length := by omega
    have HR2 := hide HR
    clear HR hm
    go_wp2
    go_ret
    rw [unhide HR2]
    have K1 : Zl w1 (.slice a1 m cap1) (F.take m) := Kl.take12 (Kl.owned encZ_len (by decide) (unhide HO)) m hmF
    have BA := below_alloc w1 (.cells #[.slice a1 m cap1] 22)
    refine ⟨_, rfl, ⟨[(a1, m, cap1)], ?_, rfl, ?_⟩, below_all BB _⟩
    · have hlit := World.ownsRow_lit (base := 0) (size := 1) (e := 22) w1 #[.slice a1 m cap1] 1 (Nat.zero_le _) (by unfold maxLen; omega) rfl
      exact Gl.owned (f := sv) (l := [(a1, m, cap1)]) hlit
    · intro i s l hsi hli
      match i, hsi, hli with
      | 0, hsi, hli =>
        simp at hsi hli
        subst hsi hli
        exact K1.below BA
      | i + 1, hsi, hli => simp at hsi

set_option maxRecDepth 100000 in
set_option maxHeartbeats 2000000 in
theorem ofLevels_any (v : Value) (L : List Sz) (per most segs : Int) (w : World) (h : Zl w v L) (hF : Z.Fit L) (hP : Z.Pol per most) :
    Calls Try.prog 56 #[v, bv per most segs] w fun e w' => ∃ v', e = .returned v' ∧ Lz w' v' (Z.tierG per.toNat most L) ∧ Below w.heap.size w w' := by
  unfold bv
  obtain ⟨i0, hi, hz0, hz1, hz2⟩ := info_parts Try.infoLZ
  obtain ⟨⟨hp2, hp8⟩, hm1, hm64⟩ := hP
  obtain ⟨p, hpp⟩ : ∃ p : Nat, per = (p : Int) := ⟨per.toNat, by omega⟩
  subst hpp
  obtain ⟨W, hW⟩ : ∃ W, W = (w.alloc (.cells #[.int .i64 (p : Int), .int .i64 most, .int .i64 segs] 52)).alloc (.cells #[.int .i64 (p : Int)] 3) := ⟨_, rfl⟩
  have BW : Below w.heap.size w W := by rw [hW]; exact below_all (below_alloc _ _) _
  have c1 : W.cell? ⟨w.heap.size, 1, none⟩ = some (.int .i64 most) := by rw [hW]; simp [go_sem]
  have cp : W.cell? ⟨w.heap.size + 1, 0, none⟩ = some (.int .i64 (p : Int)) := by rw [hW]; simp [go_sem]
  have hWs : W.heap.size = w.heap.size + 2 := by rw [hW]; simp
  have HV := h.below BW
  obtain ⟨K, hK⟩ : ∃ K, Z.lev p 64 = K := ⟨_, rfl⟩
  have hK6 : K ≤ 6 := by rw [← hK]; exact Z.lev_64 (by omega) (by omega)
  have CL := fun w => zlevelI_any 64 (p : Int) w (by omega) ⟨hp2, hp8⟩ K (by simpa using hK)
  rw [Int.toNat_natCast]
  have HG : Hid (Z.tierG p most L = Z.tierTo p most L (K + 1)) := by show _ = _; rw [Z.tierG, hK]
  obtain ⟨a, cap, rfl, -⟩ := h.open
  have HW := hide hW
  have HF := hide hF
  have hll := hF.1
  have eg : ∀ args w, (callFunc 65 args).run Try.prog w = .ok (.enter 65 args) w := enters_of Try.func65 (by kernel_rfl) rfl
  have HEG := hide eg
  have HVV := hide HV
  have hK7 : IntKind.i64.wrap ((K : Int) + 1) = (K : Int) + 1 := by rw [IntKind.wrap_i64]; omega
  clear hW h hF hK eg HV
  go_enter Try.func56, Try.ntmps56
  go_wp2_with fail
  rw [← unhide HW]
  refine (CL _).mono ?_
  rintro e w1 ⟨rfl, B1⟩
  clear CL
  go_wp2
  go_loopw [5, 16] (fun gv kv wr => ∃ (k : Nat) (gs : List (List Sz)), k ≤ K + 1 ∧ kv = .int .i64 k ∧ Hid (gs = Z.tierTo p most L k) ∧ Hid (LzO W.heap.size wr gv gs) ∧ Below W.heap.size W wr) (fun _ kv _ => K + 1 - (intOf kv).toNat)
  case atStart => exact ⟨0, [], Nat.zero_le _, rfl, rfl, LzO.nil _ _, B1⟩
  case round =>
    clear B1
    obtain ⟨k, gs, hk, rfl, HGS, HLZ, hbel⟩ := hrel
    by_cases hlt : k < K + 1
    · have hlt' : (k : Int) < (K : Int) + 1 := by omega
      obtain ⟨W1, hW1⟩ : ∃ W1, W1 = wr.alloc (.cells #[.int .i64 (k : Int)] 3) := ⟨_, rfl⟩
      have BW1 : Below W.heap.size W W1 := by rw [hW1]; exact below_all hbel _
      have B01 : Below wr.heap.size wr W1 := by rw [hW1]; exact below_alloc _ _
      have cn : W1.cell? ⟨wr.heap.size, 0, none⟩ = some (.int .i64 (k : Int)) := by rw [hW1]; exact box_cell (heap_alloc_new wr _) rfl
      have cp1 := cell_keep cp BW1
      have CO := only_any 65 (unhide HEG) #[.pointer (some ⟨w.heap.size + 1, 0, none⟩), .pointer (some ⟨wr.heap.size, 0, none⟩)] (Z.ofLv p k) _ L W1 ((unhide HVV).below BW1) (by omega)
        (fun s hs w2 hb => by
          have := cloLv_any s (w.heap.size + 1) wr.heap.size (p : Int) k w2 (cell_keep cp1 hb) (cell_keep cn hb) ((unhide HF).2 s hs) ⟨hp2, hp8⟩
          rw [Int.toNat_natCast] at this
          exact this)
      obtain ⟨F, hFe⟩ : ∃ F, L.filter (Z.ofLv p k) = F := ⟨_, rfl⟩
      have hFf : Z.Fit F := by rw [← hFe]; exact (unhide HF).sub List.filter_sublist
      have HD : Hid (gs ++ Z.chunks p most F = Z.tierTo p most L (k + 1)) := by show _ = _; rw [Z.tierTo_succ, hFe, ← unhide HGS]
      rw [hFe] at CO
      have HW1 := hide hW1
      have HLZ1 := hide ((unhide HLZ).below B01)
      clear hW1 hFe HLZ HGS hbel B01
      go_wp2_with fail
      rw [← unhide HW1]
      go_wp2_with fail
      refine CO.mono ?_
      rintro e w2 ⟨v2, rfl, O2, B2⟩
      have BW2 := below_trans' BW1 B2
      have HLZ2 := hide ((unhide HLZ1).below B2)
      have K2 : Zl w2 v2 F := Kl.owned encZ_len (by decide) O2
      have T2 := Ty12.own O2
      obtain ⟨a2, cap2, rfl, hc1, hc2, hsp⟩ := zl_spot O2
      have HX : Hid (Zl w2 (.slice a2 F.length cap2) F ∧ Ty12 36 w2 (.slice a2 F.length cap2) ∧ Z.Fit F) := ⟨K2, T2, hFf⟩
      have hFl : F.length ≤ 16 := hFf.1
      have HF2 := hFf
      have HF3 := hide HF2
      clear CO O2 B2 K2 T2 HLZ1 hFf cn cp1 BW1 HF2
      rename World => w9
      go_wp2
      go_loopw [5, 8] (fun gv lv wr => ∃ (ds : List (List Sz)) (X : List Sz) (a3 : Option Addr) (cap3 : Nat), lv = .slice a3 X.length cap3 ∧ X.length ≤ 16 ∧ cap3 ≤ 9223372036854775807 ∧ Hid (Zl wr (.slice a3 X.length cap3) X ∧ Ty12 36 wr (.slice a3 X.length cap3) ∧ Z.Fit X) ∧ Hid (ds ++ Z.chunks p most X = Z.tierTo p most L (k + 1)) ∧ Hid (LzO W.heap.size wr gv ds) ∧ Below W.heap.size W wr) (fun _ lv _ => vlen lv)
      case atStart => exact ⟨gs, F, a2, cap2, rfl, hFl, hc2, HX, HD, HLZ2, BW2⟩
      case round =>
        clear HX HD HLZ2 BW2 hc1 hc2 hFl HF3 hsp
        obtain ⟨ds, X, a3, cap3, rfl, hXl, hc3, HX, HD, HLZ, hbel⟩ := hrel
        have cp2 := cell_keep cp hbel
        have c12 := cell_keep c1 hbel
        by_cases hge : p ≤ X.length
        · have hge' : (p : Int) ≤ (X.length : Int) := by omega
          obtain ⟨KX, TX, FX⟩ := unhide HX
          obtain ⟨b3, off3, rfl, hb3⟩ := Zl.spot KX (by omega)
          have hcx : X.length ≤ cap3 := by
            obtain ⟨A, C, hA, hlA, -⟩ := id KX
            simp only [Value.slice.injEq] at hA
            obtain ⟨-, -, rfl⟩ := hA
            exact hlA
          have R1 := Try.zto (some ⟨b3, off3, none⟩) X.length cap3 p (p : Int) rfl (by omega) (fun q hq => by cases hq; rfl)
          have KG := KX.take12 p hge
          have TG : Ty12 36 wr (.slice (some ⟨b3, off3, none⟩) p cap3) := TX.cut
          have FG : Z.Fit (X.take p) := FX.sub (List.take_sublist p X)
          obtain ⟨a4, hs4, hb4, KD⟩ := KX.drop12 p hge
          have TD : Ty12 36 wr (.slice a4 (X.length - p) (cap3 - p)) := TX.same (hb4 _ _)
          have FD : Z.Fit (X.drop p) := FX.sub (List.drop_sublist p X)
          have R2 := Try.zfrom (some ⟨b3, off3, none⟩) X.length cap3 p (p : Int) rfl hge
          rw [hs4] at R2
          have hdl : (X.drop p).length = X.length - p := by simp
          have hds := unhide HD
          rw [Z.chunks_more (by omega) hge] at hds
          obtain ⟨n, hn⟩ : ∃ n, Z.lives (X.take p) = n := ⟨_, rfl⟩
          have CV := fun w' (hb : Below wr.heap.size wr w') => lives_any _ (X.take p) w' (KG.below hb) FG
          have htl : (X.take p).length = p := by simp; omega
          rw [hn] at CV hds
          have f1 := fun w' (hb : Below wr.heap.size wr w') => cell_keep c12 hb
          have HKG := hide KG
          have HTG := hide TG
          have HKD := hide KD
          have HTD := hide TD
          have HFD := hide FD
          have HDL := hide hdl
          have HB4 := hide hb4
          clear KX TX FX KG TG KD TD FD FG hs4 hn hdl htl HX hb4
          go_upto_region 10 with fail
          refine region_below (by kernel_rfl) (by kernel_rfl) ?_
          repeat
            (first
              | go_big_quiet_skip
              | (go_big_quiet_want; go_big_quiet_op
                 first
                   | go_big_quiet_on
                   | (apply Exists.intro
                      refine ⟨fun w' hw' => ?_, ?_⟩
                      · first
                       | exact rfl
                       | (rw [f1 w' hw']; exact ⟨rfl, rfl⟩)
                       | (go_at_call 38; exact (CV _ hw').mono fun e w'' ⟨h1, h2⟩ => ⟨h1, below_trans' hw' h2⟩)
                      go_big_quiet_on)))
          refine wpQuiet_nil ?_
          intro w9 hb9
          have BB9 := below_trans' hbel hb9
          have LZ9 := (unhide HLZ).below hb9
          have KG9 := Kl.below (unhide HKG) hb9
          have TG9 := (unhide HTG).below hb9
          have KD9 := Kl.below (unhide HKD) hb9
          have TD9 := (unhide HTD).below hb9
          have cp9 := cell_keep cp2 hb9
          have hbs := BB9.size
          clear CV f1 hb9 HLZ HKG HTG HKD HTD cp2 c12 hbel
          by_cases hle : n ≤ most
          · have hle' : decide (n ≤ most) = true := by simpa using hle
            rw [if_pos hle, ← List.append_assoc] at hds
            have HDS := hide hds
            obtain ⟨us, OU, GU⟩ := LZ9
            have hul : us.length ≤ 1000000 := by
              have h1 := GU.1
              have h2 := congrArg List.length hds
              have h3 := Z.tierTo_len (per := p) (most := most) (unhide HF) (k + 1)
              rw [List.length_append, List.length_append] at h2
              simp only [List.length_singleton] at h2
              omega
            have HGU := hide GU
            have HKG9 := hide KG9
            have HTG9 := hide TG9
            have HKD9 := hide KD9
            have HTD9 := hide TD9
            clear hds GU KG9 TG9 KD9 TD9
            go_wp2_with (at_builtin; refine append_oneL (f := sv) rfl _ _ 68 rfl Try.underlying68 hi hz0 hz1 hz2 rfl sv_one12 (pre := us) (some ⟨b3, off3, none⟩, p, cap3) rfl rfl (by simp) OU (by omega) (by omega) (by omega) ?_; intro g7 c7 w7 O7 g7' l7; have cp7 := cell_keep cp (BB9.grown g7' hbs (fun j hj => (OU.lt j hj).1)))
            have L7 := hide (LzO.snoc (s := (some ⟨b3, off3, none⟩, p, cap3)) OU (unhide HGU) (unhide HKG9) (unhide HTG9) O7 g7')
            have B7 := BB9.grown g7' hbs (fun j hj => (OU.lt j hj).1)
            have KD7 := Kl.keep12 (unhide HKD9) g7' ((unhide HTD9).apart OU (by decide))
            have TD7 := (unhide HTD9).grown g7' ((unhide HTD9).apart OU (by decide))
            rw [← unhide HDL] at KD7 TD7
            have HX7 : Hid (Zl w7 (.slice a4 (X.drop p).length (cap3 - p)) (X.drop p) ∧ Ty12 36 w7 (.slice a4 (X.drop p).length (cap3 - p)) ∧ Z.Fit (X.drop p)) := ⟨KD7, TD7, unhide HFD⟩
            have hdl2 : (X.drop p).length ≤ 16 := by have := unhide HDL; omega
            have hmeas : (X.drop p).length < X.length := by have := unhide HDL; omega
            clear O7 g7' l7 KD7 TD7 cp9 OU BB9
            go_roundw
            case rel => exact ⟨ds ++ [X.take p], X.drop p, a4, cap3 - p, by rw [unhide HDL], hdl2, by omega, HX7, HDS, L7, B7⟩
            case measure => simp [vlen]; omega
          · have hle' : decide (n ≤ most) = false := by simpa using hle
            rw [if_neg hle, List.nil_append] at hds
            have HDS := hide hds
            rw [← unhide HDL] at KD9 TD9
            have HX9 : Hid (Zl w9 (.slice a4 (X.drop p).length (cap3 - p)) (X.drop p) ∧ Ty12 36 w9 (.slice a4 (X.drop p).length (cap3 - p)) ∧ Z.Fit (X.drop p)) := ⟨KD9, TD9, unhide HFD⟩
            have hdl2 : (X.drop p).length ≤ 16 := by have := unhide HDL; omega
            have HL9 := hide LZ9
            clear hds KD9 TD9 KG9 TG9
            clear LZ9
            go_wp2
            go_roundw
            case rel => exact ⟨ds, X.drop p, a4, cap3 - p, by rw [unhide HDL], hdl2, by omega, HX9, HDS, HL9, BB9⟩
            case measure => simp [vlen]; omega
        · have hge' : ¬ (p : Int) ≤ (X.length : Int) := by omega
          have hds := unhide HD
          rw [Z.chunks_few (by omega), List.append_nil] at hds
          have HGS := hide hds
          clear hds
          go_wp2
          go_roundw
          case rel => exact ⟨k + 1, ds, by omega, by go_num, HGS, HLZ, hbel⟩
          case measure => simp [intOf]; omega
    · have hk1 : k = K + 1 := by omega
      subst hk1
      have hlt' : ¬ (((K + 1 : Nat) : Int) < (K : Int) + 1) := by omega
      go_wp2
      go_ret
      rw [unhide HG, ← unhide HGS]
      exact ⟨_, rfl, (unhide HLZ).lz, BW.trans (hbel.mono (by omega))⟩
end Go.Proofs.Ytfniphaehggcgaa

/-
  The contract of ofRuns.
-/
namespace Go.Proofs.Ytfniphaehggcgaa
set_option maxRecDepth 100000
open Go.RowKit Go.Deep

theorem Z.runs_len (per : Nat) (most : Int) : ∀ (n : Nat) (l : List Sz), l.length ≤ n → (Z.runs per most l).length ≤ l.length
  | 0, l, h => by
    rw [Z.runs]
    split
    · omega
    · simp
  | n + 1, l, h => by
    rw [Z.runs]
    split
    · rename_i h1
      split
      · have := Z.runs_len per most n (l.drop per) (by rw [List.length_drop]; omega)
        rw [List.length_drop] at this
        simp only [List.length_cons]
        omega
      · have := Z.runs_len per most n (l.drop 1) (by rw [List.length_drop]; omega)
        rw [List.length_drop] at this
        omega
    · simp

/-- If there is something, it lies below B. -/
def Lo12 (B : Nat) (v : Value) (X : List Sz) : Prop := 0 < X.length → ∀ g, v.ownBlock = some g → g < B
theorem Lo12.of {w : World} {v : Value} {L : List Sz} (h : Zl w v L) : Lo12 w.heap.size v L := fun h0 g hg => by
  obtain ⟨a, c, rfl, -, -, -, ho⟩ := h.open
  obtain ⟨b, off, rfl, hb, -⟩ := ho h0
  simp only [Value.ownBlock, Option.some.injEq] at hg
  omega
theorem Lo12.apart {B : Nat} {v u : Value} {X : List Sz} (h : Lo12 B v X) {w : World} {e : TypeId} {K n : Nat} {xs : List Value} (o : w.ownsRow B e K u n xs) : 0 < X.length → ∀ g, v.ownBlock = some g → some g ≠ u.ownBlock := fun h0 g hg e => by
  have h1 := h h0 g hg
  have h2 := (o.lt g e.symm).1
  omega
/-- Lists of sizes that lie below B, in a row of the call's own. -/
def LzL (B : Nat) (w : World) (v : Value) (gs : List (List Sz)) : Prop := ∃ us : List Pts, w.ownsRow B 22 1 v us.length (us.map sv) ∧ us.length = gs.length ∧ ∀ (i : Nat) (s : Pts) (l : List Sz), us[i]? = some s → gs[i]? = some l → Zl w (sv s) l ∧ Lo12 B (sv s) l
theorem LzL.nil (B : Nat) (w : World) : LzL B w (.slice none 0 0) [] := ⟨[], World.ownsRow_nil _ _ _ _, rfl, fun i s l h => by simp at h⟩
theorem LzL.below {B : Nat} {w w' : World} {v : Value} {gs : List (List Sz)} (h : LzL B w v gs) (hb : Below w.heap.size w w') : LzL B w' v gs := by
  obtain ⟨us, h1, h2, h3⟩ := h
  exact ⟨us, own_below h1 hb, h2, fun i s l hs hl => ⟨Kl.below (h3 i s l hs hl).1 hb, (h3 i s l hs hl).2⟩⟩
theorem LzL.lz {B : Nat} {w : World} {v : Value} {gs : List (List Sz)} (h : LzL B w v gs) : Lz w v gs := by
  obtain ⟨us, h1, h2, h3⟩ := h
  exact ⟨us, Gl.owned h1, h2, fun i s l hs hl => (h3 i s l hs hl).1⟩
theorem LzL.snoc {B : Nat} {w w' : World} {v v' : Value} {us : List Pts} {gs : List (List Sz)} {s : Pts} {l : List Sz} (h1 : w.ownsRow B 22 1 v us.length (us.map sv)) (h2 : us.length = gs.length ∧ ∀ (i : Nat) (s : Pts) (l : List Sz), us[i]? = some s → gs[i]? = some l → Zl w (sv s) l ∧ Lo12 B (sv s) l) (hs : Zl w (sv s) l) (ht : Lo12 B (sv s) l)
    (ho : w'.ownsRow B 22 1 v' (us ++ [s]).length ((us ++ [s]).map sv)) (hg : w.grownBy w' v.ownBlock) : LzL B w' v' (gs ++ [l]) := by
  refine ⟨us ++ [s], ho, by simp [h2.1], fun i s' l' hs' hl' => ?_⟩
  by_cases hi : i < us.length
  · rw [List.getElem?_append_left hi] at hs'
    rw [List.getElem?_append_left (by rw [← h2.1]; exact hi)] at hl'
    obtain ⟨k1, k2⟩ := h2.2 i s' l' hs' hl'
    exact ⟨Kl.keep12e k1 hg (k2.apart h1), k2⟩
  · rw [List.getElem?_append_right (by omega)] at hs'
    rw [List.getElem?_append_right (by rw [← h2.1]; omega), ← h2.1] at hl'
    match i - us.length, hs', hl' with
    | 0, hs', hl' =>
      simp at hs' hl'
      subst hs' hl'
      exact ⟨Kl.keep12e hs hg (ht.apart h1), ht⟩
    | j + 1, hs', _ => simp at hs'

set_option maxRecDepth 100000 in
set_option maxHeartbeats 4000000 in
theorem ofRuns_any (v : Value) (L : List Sz) (per most segs : Int) (w : World) (h : Zl w v L) (hF : Z.Fit L) (hP : Z.Pol per most) :
    Calls Try.prog 58 #[v, bv per most segs] w fun e w' => ∃ v', e = .returned v' ∧ Lz w' v' (Z.runs per.toNat most L) ∧ Below w.heap.size w w' := by
  unfold bv
  obtain ⟨i0, hi, hz0, hz1, hz2⟩ := info_parts Try.infoLZ
  have hPP := hP
  obtain ⟨⟨hp2, hp8⟩, hm1, hm64⟩ := hP
  obtain ⟨p, hpp⟩ : ∃ p : Nat, per = (p : Int) := ⟨per.toNat, by omega⟩
  subst hpp
  rw [Int.toNat_natCast]
  obtain ⟨W, hW⟩ : ∃ W, W = w.alloc (.cells #[.int .i64 (p : Int), .int .i64 most, .int .i64 segs] 52) := ⟨_, rfl⟩
  have BW : Below w.heap.size w W := by rw [hW]; exact below_alloc _ _
  have c1 : W.cell? ⟨w.heap.size, 1, none⟩ = some (.int .i64 most) := by rw [hW]; exact box_cell (heap_alloc_new w _) rfl
  have HV := h.below BW
  have HTV : Lo12 W.heap.size v L := fun h0 g hg => by have h1 := Lo12.of h h0 g hg; have h2 := BW.size; omega
  obtain ⟨a, cap, rfl, -, hcap, -⟩ := h.open
  have hX0 : Hid (Zl W (.slice a L.length cap) L ∧ Lo12 W.heap.size (.slice a L.length cap) L ∧ Z.Fit L) := ⟨HV, HTV, hF⟩
  have HW := hide hW
  have hll := hF.1
  have HF := hide hF
  clear hW h hF HV HTV
  go_enter Try.func58, Try.ntmps58
  go_wp2_with fail
  rw [← unhide HW]
  go_loopw [5, 7] (fun gv lv wr => ∃ (ds : List (List Sz)) (X : List Sz) (a3 : Option Addr) (cap3 : Nat), lv = .slice a3 X.length cap3 ∧ X.length ≤ 16 ∧ cap3 ≤ 9223372036854775807 ∧ Hid (Zl wr (.slice a3 X.length cap3) X ∧ Lo12 W.heap.size (.slice a3 X.length cap3) X ∧ Z.Fit X) ∧ Hid (ds ++ Z.runs p most X = Z.runs p most L) ∧ Hid (LzL W.heap.size wr gv ds) ∧ Below W.heap.size W wr) (fun _ lv _ => vlen lv)
  case atStart => exact ⟨[], L, a, cap, rfl, hll, hcap, hX0, rfl, LzL.nil _ _, Below.refl _ _⟩
  case round =>
    clear hX0
    obtain ⟨ds, X, a3, cap3, rfl, hXl, hc3, HX, HD, HLZ, hbel⟩ := hrel
    have c12 := cell_keep c1 hbel
    by_cases hge : p ≤ X.length
    · have hge' : (p : Int) ≤ (X.length : Int) := by omega
      obtain ⟨KX, TX, FX⟩ := unhide HX
      obtain ⟨b3, off3, rfl, hb3⟩ := Zl.spot KX (by omega)
      have hcx : X.length ≤ cap3 := by
        obtain ⟨A, C, hA, hlA, -⟩ := id KX
        simp only [Value.slice.injEq] at hA
        obtain ⟨-, -, rfl⟩ := hA
        exact hlA
      have R1 := Try.zto (some ⟨b3, off3, none⟩) X.length cap3 p (p : Int) rfl (by omega) (fun q hq => by cases hq; rfl)
      have KG := KX.take12 p hge
      have TG : Lo12 W.heap.size (.slice (some ⟨b3, off3, none⟩) p cap3) (X.take p) := fun _ g hg => TX (by omega) g hg
      have FG : Z.Fit (X.take p) := FX.sub (List.take_sublist p X)
      have htl : (X.take p).length = p := by simp; omega
      have hds := unhide HD
      obtain ⟨n, hn⟩ : ∃ n, Z.lives (X.take p) = n := ⟨_, rfl⟩
      obtain ⟨r, hr⟩ : ∃ r, Z.alk p (X.take p) = r := ⟨_, rfl⟩
      have CA := fun w' (hb : Below wr.heap.size wr w') => alike_z _ (X.take p) (p : Int) w' (KG.below hb) (by omega) FG ⟨hp2, hp8⟩ r (by rw [Int.toNat_natCast]; exact hr)
      have CV := fun w' (hb : Below wr.heap.size wr w') => lives_any _ (X.take p) w' (KG.below hb) FG
      rw [hn] at CV
      have f1 := fun w' (hb : Below wr.heap.size wr w') => cell_keep c12 hb
      have HKG := hide KG
      have HTG := hide TG
      by_cases hgo : r = true ∧ n ≤ most
      · obtain ⟨rfl, hle⟩ := hgo
        have hle' : decide (most < n) = false := by simp; omega
        rw [Z.runs_yes (by omega) hge hr (by rw [hn]; exact hle), ← List.singleton_append, ← List.append_assoc] at hds
        obtain ⟨a4, hs4, hb4, KD⟩ := KX.drop12 p hge
        have TD : Lo12 W.heap.size (.slice a4 (X.length - p) (cap3 - p)) (X.drop p) := fun _ g hg => TX (by omega) g (hb4 _ _ g hg)
        have FD : Z.Fit (X.drop p) := FX.sub (List.drop_sublist p X)
        have R2 := Try.zfrom (some ⟨b3, off3, none⟩) X.length cap3 p (p : Int) rfl hge
        rw [hs4] at R2
        have hdl : (X.drop p).length = X.length - p := by simp
        have HKD := hide KD
        have HTD := hide TD
        have HFD := hide FD
        have HDL := hide hdl
        have HDS := hide hds
        clear KX TX FX KG TG KD TD FD FG hs4 hn hr hdl htl HX hb4 hds HD
        go_upto_region 6 with fail
        refine region_below (by kernel_rfl) (by kernel_rfl) ?_
        repeat
          (first
            | go_big_quiet_skip
            | (go_big_quiet_want; go_big_quiet_op
               first
                 | go_big_quiet_on
                 | (apply Exists.intro
                    refine ⟨fun w' hw' => ?_, ?_⟩
                    · first
                     | exact rfl
                     | (rw [f1 w' hw']; exact ⟨rfl, rfl⟩)
                     | (go_at_call 66; exact (CA _ hw').mono fun e w'' ⟨h1, h2⟩ => ⟨h1, below_trans' hw' h2⟩)
                     | (go_at_call 38; exact (CV _ hw').mono fun e w'' ⟨h1, h2⟩ => ⟨h1, below_trans' hw' h2⟩)
                    go_big_quiet_on)))
        refine wpQuiet_nil ?_
        intro w9 hb9
        have BB9 := below_trans' hbel hb9
        have LZ9 := (unhide HLZ).below hb9
        have HKG9 := hide (Kl.below (unhide HKG) hb9)
        have HTG9 := HTG
        have HKD9 := hide (Kl.below (unhide HKD) hb9)
        have HTD9 := HTD
        have hbs := BB9.size
        clear CV CA f1 hb9 HLZ HKG HKD c12 hbel
        obtain ⟨us, OU, GU⟩ := LZ9
        have hul : us.length ≤ 1000000 := by
          have h1 : us.length = ds.length := GU.1
          have h2 := congrArg List.length (unhide HDS)
          have h3 := Z.runs_len p most _ L (Nat.le_refl _)
          rw [List.length_append, List.length_append] at h2
          simp only [List.length_singleton] at h2
          omega
        have HGU := hide GU
        have HOU := hide OU
        obtain ⟨ua, uc, rfl, hu1, hu2, hu3⟩ := zl_spot OU
        clear GU
        go_upto_region 8 with fail
        go_region_law
          ((refine step_append_lies _ (by rfl) _ _ _ (by rfl) W.heap.size 22 i0 _ 1 24 Try.underlying68 hi hz0 hz1 hz2 rfl (by omega) (.slice ua us.length uc) _ _ (by rfl) ((OU.alloc _).drew)
                    ⟨w9.heap.size, 0, none⟩ 1 1 [.slice (some ⟨b3, off3, none⟩) p cap3] (by rfl) (by rfl) (World.news_of_block (cs := #[.slice (some ⟨b3, off3, none⟩) p cap3]) (t := 22) (fr := (0, 0)) (heap_alloc_new w9 _)) (by simp [Value.oneCell'])
                    (by omega) (by unfold maxLen; omega) (by omega) (by simp; omega) (w9.heap.size + 1) (by simp) ?_; intro g7 c7 w7 O7 g7' l7 lt7))
        all_goals
          have G7 := (grown_below (below_alloc w9 (.cells #[.slice (some ⟨b3, off3, none⟩) p cap3] 22)).drew (Value.slice ua us.length uc).ownBlock).trans g7'
          have O7' : w7.ownsRow W.heap.size 22 1 (.slice (some ⟨g7, 0, none⟩) (us.length + 1) c7) (us ++ [(((some ⟨b3, off3, none⟩ : Option Addr), p, cap3) : Pts)]).length ((us ++ [(((some ⟨b3, off3, none⟩ : Option Addr), p, cap3) : Pts)]).map sv) := by simpa [sv] using O7
          have L7 := hide (LzL.snoc (s := (some ⟨b3, off3, none⟩, p, cap3)) (unhide HOU) (unhide HGU) (unhide HKG9) (unhide HTG9) O7' G7)
          have B7 := BB9.grown G7 hbs (fun j hj => ((unhide HOU).lt j hj).1)
          have KD7 := Kl.keep12e (unhide HKD9) G7 ((unhide HTD9).apart (unhide HOU))
          have TD7 := unhide HTD9
          rw [← unhide HDL] at KD7 TD7
          have HX7 : Hid (Zl w7 (.slice a4 (X.drop p).length (cap3 - p)) (X.drop p) ∧ Lo12 W.heap.size (.slice a4 (X.drop p).length (cap3 - p)) (X.drop p) ∧ Z.Fit (X.drop p)) := ⟨KD7, TD7, unhide HFD⟩
          have hdl2 : (X.drop p).length ≤ 16 := by have := unhide HDL; omega
          have hmeas : (X.drop p).length < X.length := by have := unhide HDL; omega
          clear O7 O7' g7' l7 KD7 TD7 OU BB9 G7
          go_simp
          go_wp2
          go_roundw
          case rel => exact ⟨ds ++ [X.take p], X.drop p, a4, cap3 - p, by rw [unhide HDL], hdl2, by omega, HX7, HDS, L7, B7⟩
          case measure => simp [vlen]; omega
      · rw [Z.runs_no (by omega) hge (by rw [hr, hn]; exact hgo)] at hds
        obtain ⟨a4, hs4, hb4, KD⟩ := KX.drop12 1 (by omega)
        have TD : Lo12 W.heap.size (.slice a4 (X.length - 1) (cap3 - 1)) (X.drop 1) := fun _ g hg => TX (by omega) g (hb4 _ _ g hg)
        have FD : Z.Fit (X.drop 1) := FX.sub (List.drop_sublist 1 X)
        have R2 := Try.zfrom (some ⟨b3, off3, none⟩) X.length cap3 1 1 rfl (by omega)
        rw [hs4] at R2
        have hdl : (X.drop 1).length = X.length - 1 := by simp
        have HKD := hide KD
        have HTD := hide TD
        have HFD := hide FD
        have HDL := hide hdl
        have HDS := hide hds
        clear KX TX FX KG TG KD TD FD FG hs4 hn hr hdl htl HX hb4 hds HD HKG HTG
        cases r with
        | true =>
          have hle' : decide (most < n) = true := by
            simp only [true_and] at hgo
            simp
            omega
          clear hgo
          go_upto_region 6 with fail
          refine region_below (by kernel_rfl) (by kernel_rfl) ?_
          repeat
            (first
              | go_big_quiet_skip
              | (go_big_quiet_want; go_big_quiet_op
                 first
                   | go_big_quiet_on
                   | (apply Exists.intro
                      refine ⟨fun w' hw' => ?_, ?_⟩
                      · first
                       | exact rfl
                       | (rw [f1 w' hw']; exact ⟨rfl, rfl⟩)
                       | (go_at_call 66; exact (CA _ hw').mono fun e w'' ⟨h1, h2⟩ => ⟨h1, below_trans' hw' h2⟩)
                       | (go_at_call 38; exact (CV _ hw').mono fun e w'' ⟨h1, h2⟩ => ⟨h1, below_trans' hw' h2⟩)
                      go_big_quiet_on)))
          refine wpQuiet_nil ?_
          intro w9 hb9
          have BB9 := below_trans' hbel hb9
          have HL9 := hide ((unhide HLZ).below hb9)
          have KD9 := Kl.below (unhide HKD) hb9
          have TD9 := unhide HTD
          rw [← unhide HDL] at KD9 TD9
          have HX9 : Hid (Zl w9 (.slice a4 (X.drop 1).length (cap3 - 1)) (X.drop 1) ∧ Lo12 W.heap.size (.slice a4 (X.drop 1).length (cap3 - 1)) (X.drop 1) ∧ Z.Fit (X.drop 1)) := ⟨KD9, TD9, unhide HFD⟩
          have hdl2 : (X.drop 1).length ≤ 16 := by have := unhide HDL; omega
          clear CV CA f1 hb9 HLZ HKD HTD c12 hbel KD9 TD9
          go_wp2
          go_roundw
          case rel => exact ⟨ds, X.drop 1, a4, cap3 - 1, by rw [unhide HDL], hdl2, by omega, HX9, HDS, HL9, BB9⟩
          case measure => simp [vlen]; omega
        | false =>
          clear hgo
          go_upto_region 6 with fail
          refine region_below (by kernel_rfl) (by kernel_rfl) ?_
          repeat
            (first
              | go_big_quiet_skip
              | (go_big_quiet_want; go_big_quiet_op
                 first
                   | go_big_quiet_on
                   | (apply Exists.intro
                      refine ⟨fun w' hw' => ?_, ?_⟩
                      · first
                       | exact rfl
                       | (rw [f1 w' hw']; exact ⟨rfl, rfl⟩)
                       | (go_at_call 66; exact (CA _ hw').mono fun e w'' ⟨h1, h2⟩ => ⟨h1, below_trans' hw' h2⟩)
                       | (go_at_call 38; exact (CV _ hw').mono fun e w'' ⟨h1, h2⟩ => ⟨h1, below_trans' hw' h2⟩)
                      go_big_quiet_on)))
          refine wpQuiet_nil ?_
          intro w9 hb9
          have BB9 := below_trans' hbel hb9
          have HL9 := hide ((unhide HLZ).below hb9)
          have KD9 := Kl.below (unhide HKD) hb9
          have TD9 := unhide HTD
          rw [← unhide HDL] at KD9 TD9
          have HX9 : Hid (Zl w9 (.slice a4 (X.drop 1).length (cap3 - 1)) (X.drop 1) ∧ Lo12 W.heap.size (.slice a4 (X.drop 1).length (cap3 - 1)) (X.drop 1) ∧ Z.Fit (X.drop 1)) := ⟨KD9, TD9, unhide HFD⟩
          have hdl2 : (X.drop 1).length ≤ 16 := by have := unhide HDL; omega
          clear CV CA f1 hb9 HLZ HKD HTD c12 hbel KD9 TD9
          go_wp2
          go_roundw
          case rel => exact ⟨ds, X.drop 1, a4, cap3 - 1, by rw [unhide HDL], hdl2, by omega, HX9, HDS, HL9, BB9⟩
          case measure => simp [vlen]; omega
    · have hge' : ¬ (p : Int) ≤ (X.length : Int) := by omega
      have hds := unhide HD
      rw [Z.runs_few (by omega), List.append_nil] at hds
      have HGS := hide hds
      clear hds
      go_wp2
      go_ret
      rw [← unhide HGS]
      exact ⟨_, rfl, (unhide HLZ).lz, below_trans' BW hbel⟩
end Go.Proofs.Ytfniphaehggcgaa
