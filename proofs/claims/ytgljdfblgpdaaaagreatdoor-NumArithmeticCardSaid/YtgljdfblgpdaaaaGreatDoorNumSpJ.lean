/- The specification by value: Gcd (under way). -/
import Derived.Test.YtgljdfblgpdaaaaGreatDoorNumSpI
import Derived.Deep.DeepCutAuto
import Derived.Deep.RegionLaw
set_option linter.unusedSimpArgs false
set_option linter.unusedVariables false
namespace Go.Proofs.YtgljdfblgpdaaaaGreatDoor
open Go.RowKit Go.Shelf
theorem gcd_mod' {x y : Int} (hx : 0 ≤ x) (hy : 0 ≤ y) : Nat.gcd y.natAbs (x % y).natAbs = Nat.gcd x.natAbs y.natAbs := by
  obtain ⟨a, rfl⟩ := Int.eq_ofNat_of_zero_le hx
  obtain ⟨b, rfl⟩ := Int.eq_ofNat_of_zero_le hy
  have e : ((a : Int) % (b : Int)).natAbs = a % b := by rw [← Int.natCast_emod, Int.natAbs_natCast]
  rw [e, Int.natAbs_natCast, Int.natAbs_natCast, Nat.gcd_comm a b, Nat.gcd_rec b a, Nat.gcd_comm]

set_option maxRecDepth 100000 in
set_option maxHeartbeats 8000000 in
theorem RGcd_iv {w : World} {na nb : Bool} {A B : Option Addr} {ca cb : Nat} {la lb : List Nat} {x y z : Int} (ia : IV w na A ca la x) (ib : IV w nb B cb lb y) (hz : ((Nat.gcd x.natAbs y.natAbs : Nat) : Int) = z) (hlt : Lt 300 z) :
    Calls Tryz.prog 25 #[.agg #[.bool na, .slice A la.length ca], .agg #[.bool nb, .slice B lb.length cb]] w (RIV w z) := by
  have ea := ia.len
  have eb := ib.len
  have HLa : Hid (Lt 300 (x.natAbs : Int)) := Lib.hid (by have := lt_le (lt_val ia.ws ia.val) ia.len; unfold Lt at *; simpa using this)
  have HLb : Hid (Lt 300 (y.natAbs : Int)) := Lib.hid (by have := lt_le (lt_val ib.ws ib.val) ib.len; unfold Lt at *; simpa using this)
  go_enter Tryz.func25, Tryz.ntmps25
  go_wp2_with fail
  refine (RIs_iv (ia.below (ba (ba (ba (b0 _) _) _) _))).mono ?_
  rintro e w0 ⟨rfl, hb0⟩
  have hbx0 := (Box2.new ((w.alloc (.cells #[.bool na, .slice A la.length ca] 24)).alloc (.cells #[.bool nb, .slice B lb.length cb] 24)) (.bool false) (.slice none 0 0)).below hb0
  rw [World.size_alloc, World.size_alloc] at hbx0
  have hby0 := (((Box2.new w (.bool na) (.slice A la.length ca)).alloc (.cells #[.bool nb, .slice B lb.length cb] 24)).alloc (.cells #[.bool false, .slice none 0 0] 24)).below hb0
  have hbz0 := ((Box2.new (w.alloc (.cells #[.bool na, .slice A la.length ca] 24)) (.bool nb) (.slice B lb.length cb)).alloc (.cells #[.bool false, .slice none 0 0] 24)).below hb0
  rw [World.size_alloc] at hbz0
  have hK0 := bt (ba (ba (ba (b0 w) _) _) _) hb0
  have y2 := hbz0.cell0
  have y3 := hbz0.cell1
  go_wp2_with fail
  refine (RIs_iv (ib.below hK0)).mono ?_
  rintro e w1 ⟨rfl, hb1⟩
  have hbx := hbx0.below hb1
  have hby := hby0.below hb1
  have hbz := hbz0.below hb1
  have hK := bt hK0 hb1
  clear hbx0 hby0 hbz0 hK0 hb0 hb1 y2 y3
  have y0 := hby.cell0
  have y1 := hby.cell1
  have y2 := hbz.cell0
  have y3 := hbz.cell1
  have hwA := ia.ws.below hK
  have hwB := ib.ws.below hK
  have tokg : True := trivial
  have HBX := Lib.hid hbx
  have HBY := Lib.hid hby
  have HBZ := Lib.hid hbz
  have hxs := hbx.lt
  clear hbx hby hbz hwA hwB
  go_upto_region 3 with fail
  go_cut [5, 6] (fun s t wx => PwAt w1 (x.natAbs : Int) (y.natAbs : Int) s t wx)
  case first =>
    as_aux_lemma =>
    have S5 : ∀ W, Below w1.heap.size w1 W → W.cell? ⟨w.heap.size, 0, none⟩ = some (.bool na) ∧ W.cell? ⟨w.heap.size, 1, none⟩ = some (.slice A la.length ca) ∧ W.cell? ⟨w.heap.size + 1, 0, none⟩ = some (.bool nb) ∧ W.cell? ⟨w.heap.size + 1, 1, none⟩ = some (.slice B lb.length cb) := fun W hb => ⟨cell_below (HBY.out.cell0) hb, cell_below (HBY.out.cell1) hb, cell_below (HBZ.out.cell0) hb, cell_below (HBZ.out.cell1) hb⟩
    have HS5 := Lib.hid S5
    clear S5
    go_region_held3 (fun W => W.cell? ⟨w.heap.size, 0, none⟩ = some (.bool na) ∧ W.cell? ⟨w.heap.size, 1, none⟩ = some (.slice A la.length ca) ∧ W.cell? ⟨w.heap.size + 1, 0, none⟩ = some (.bool nb) ∧ W.cell? ⟨w.heap.size + 1, 1, none⟩ = some (.slice B lb.length cb))
      ((refine HS5.out _ ?_; (repeat (first | assumption | exact b0 _ | apply ba | apply bd | apply bw | (refine bs ?_ (by first | exact Nat.le_refl _ | (dsimp only; omega) | omega) _)))))
      (first
      | (go_at_call 62; have _t := tokg; refine (RAbs_iv (ia.below (bt hK (by repeat (first | assumption | exact b0 _ | apply ba | apply bd | apply bw)))) rfl HLa.out).mono ?_; clear tokg _t; rintro e w6 ⟨n6, A6, c6, l6, rfl, i6, hb6⟩; obtain ⟨hcc6, hff6⟩ := bcell hb6; have hw6 := i6.ws; have hb16 : Below w1.heap.size w1 w6 := bt (by repeat (first | assumption | exact b0 _ | apply ba | apply bd | apply bw)) hb6; have sz6 := hb16.size; have sy6 := hb6.size; (try simp at sy6); (try have sw6 : w1.heap.size < w6.heap.size := by omega); (try have sv6 : w1.heap.size + 1 < w6.heap.size := by omega))
      | (go_at_call 62; refine (RAbs_iv (ib.below (bt hK (by repeat (first | assumption | exact b0 _ | apply ba | apply bd | apply bw)))) rfl HLb.out).mono ?_; rintro e w7 ⟨n7, A7, c7, l7, rfl, i7, hb7⟩; obtain ⟨hcc7, hff7⟩ := bcell hb7; have hw7 := i7.ws; have hb17 : Below w1.heap.size w1 w7 := bt (by repeat (first | assumption | exact b0 _ | apply ba | apply bd | apply bw)) hb7; have sz7 := hb17.size; have sy7 := hb7.size; (try simp at sy7); (try have sw7 : w1.heap.size < w7.heap.size := by omega); (try have sv7 : w1.heap.size + 1 < w7.heap.size := by omega); (try have su7 : w6.heap.size < w7.heap.size := by omega); (try have st7 : w6.heap.size + 1 < w7.heap.size := by omega); have hw67 := (hw6.below (by repeat (first | assumption | exact b0 _ | apply ba | apply bd | apply bw))).below hb7))
    all_goals (go_wp2_with fail; go_meet)
    all_goals
      have g6 := fun (p : Nat) (h : Box2 w7 p (.bool false) (.slice none 0 0)) => ws_off_box h (by simp) hw67
      have g7 := fun (p : Nat) (h : Box2 w7 p (.bool false) (.slice none 0 0)) => ws_off_box h (by simp) hw7
      have G6 := fun (p : Nat) (h : w7.heap.size ≤ p) => hw67.off h
      have G7 := fun (p : Nat) (h : w7.heap.size ≤ p) => hw7.off h
      refine ⟨_, _, rfl, rfl, n6, A6, c6, l6, n7, A7, c7, l7, ?_, ?_, ⟨i6.cap, ?_, i6.can, i6.val, i6.len⟩, ⟨i7.cap, ?_, i7.can, i7.val, i7.len⟩, ?_, ?_, ?_, ?_⟩
      · (repeat (first
          | with_reducible exact hw67
          | with_reducible exact hw7
          | (with_reducible refine WS.below ?_ (ba (b0 _) _))
          | (with_reducible refine WS.two ?_ ?_ _ _)
          | (focus ((with_reducible refine Box2.new' ?_); (simp; done)))
          | (with_reducible refine Box2.alloc ?_ _)
          | (with_reducible refine Box2.stored' ?_ _ _)
          | (with_reducible refine Box2.far ?_ ?_ _ _)
          | (with_reducible refine Box2.below ?_ hb7)
          | (with_reducible refine Box2.below ?_ hb6)
          | exact G6 _ (by first | exact Nat.le_refl _ | omega)
          | exact G7 _ (by first | exact Nat.le_refl _ | omega)
          | (with_reducible refine g6 _ ?_)
          | (with_reducible refine g7 _ ?_)
          | omega
          | (focus (simp; done))
          | (with_reducible refine Box2.drew' ?_)))
      · (repeat (first
          | with_reducible exact hw67
          | with_reducible exact hw7
          | (with_reducible refine WS.below ?_ (ba (b0 _) _))
          | (with_reducible refine WS.two ?_ ?_ _ _)
          | (focus ((with_reducible refine Box2.new' ?_); (simp; done)))
          | (with_reducible refine Box2.alloc ?_ _)
          | (with_reducible refine Box2.stored' ?_ _ _)
          | (with_reducible refine Box2.far ?_ ?_ _ _)
          | (with_reducible refine Box2.below ?_ hb7)
          | (with_reducible refine Box2.below ?_ hb6)
          | exact G6 _ (by first | exact Nat.le_refl _ | omega)
          | exact G7 _ (by first | exact Nat.le_refl _ | omega)
          | (with_reducible refine g6 _ ?_)
          | (with_reducible refine g7 _ ?_)
          | omega
          | (focus (simp; done))
          | (with_reducible refine Box2.drew' ?_)))
      · (repeat (first
          | with_reducible exact hw67
          | with_reducible exact hw7
          | (with_reducible refine WS.below ?_ (ba (b0 _) _))
          | (with_reducible refine WS.two ?_ ?_ _ _)
          | (focus ((with_reducible refine Box2.new' ?_); (simp; done)))
          | (with_reducible refine Box2.alloc ?_ _)
          | (with_reducible refine Box2.stored' ?_ _ _)
          | (with_reducible refine Box2.far ?_ ?_ _ _)
          | (with_reducible refine Box2.below ?_ hb7)
          | (with_reducible refine Box2.below ?_ hb6)
          | exact G6 _ (by first | exact Nat.le_refl _ | omega)
          | exact G7 _ (by first | exact Nat.le_refl _ | omega)
          | (with_reducible refine g6 _ ?_)
          | (with_reducible refine g7 _ ?_)
          | omega
          | (focus (simp; done))
          | (with_reducible refine Box2.drew' ?_)))
      · (repeat (first
          | with_reducible exact hw67
          | with_reducible exact hw7
          | (with_reducible refine WS.below ?_ (ba (b0 _) _))
          | (with_reducible refine WS.two ?_ ?_ _ _)
          | (focus ((with_reducible refine Box2.new' ?_); (simp; done)))
          | (with_reducible refine Box2.alloc ?_ _)
          | (with_reducible refine Box2.stored' ?_ _ _)
          | (with_reducible refine Box2.far ?_ ?_ _ _)
          | (with_reducible refine Box2.below ?_ hb7)
          | (with_reducible refine Box2.below ?_ hb6)
          | exact G6 _ (by first | exact Nat.le_refl _ | omega)
          | exact G7 _ (by first | exact Nat.le_refl _ | omega)
          | (with_reducible refine g6 _ ?_)
          | (with_reducible refine g7 _ ?_)
          | omega
          | (focus (simp; done))
          | (with_reducible refine Box2.drew' ?_)))
      · omega
      · omega
      · omega
      · repeat (first | exact hb17 | (with_reducible refine ba ?_ _) | (with_reducible refine bs ?_ ?_ _))
        all_goals (first | exact Nat.le_refl _ | (dsimp only; omega) | omega)
  case rest =>
  obtain ⟨p, q, rfl, rfl, hpw⟩ := hcut
  obtain ⟨w8, hw8⟩ : ∃ v, v = wc := ⟨_, rfl⟩
  rw [← hw8] at hpw ⊢
  clear hw8 wc
  have HPW8 := Lib.hid hpw
  have hxs1 := HBX.out.lt
  have HBX8 := Lib.hid (fun W (h : Below w1.heap.size w1 W) => HBX.out.below h)
  obtain ⟨mz, hmz⟩ := PwB.meas w1 p q
  have HMZ := Lib.hid hmz
  have HZ := Lib.hid hz
  have HLT := Lib.hid hlt
  have HK := Lib.hid hK
  clear hpw hmz y0 y1 y2 y3 hz hlt hK tokg
  go_wp2_with fail
  go_loopw [] (fun wr => ∃ (x' y' : Int), 0 ≤ x' ∧ 0 ≤ y' ∧ Hid (Lt 300 x' ∧ Lt 300 y' ∧ ((Nat.gcd x'.natAbs y'.natAbs : Nat) : Int) = z) ∧ Hid (PwB w1 p q x' y' wr)) (fun wr => mz wr)
  case atStart => exact ⟨_, _, by omega, by omega, Lib.hid ⟨HLa.out, HLb.out, by simpa using HZ.out⟩, HPW8⟩
  case round =>
    clear HPW8
    obtain ⟨x', y', hx0, hy0, hG, hP⟩ := hrel
    obtain ⟨n1, A1, c1, l1, n2, A2, c2, l2, bp, bq, i1, i2, hne, hp, hq, hbl⟩ := hP.out
    have p0 := bp.cell0
    have p1 := bp.cell1
    have q0 := bq.cell0
    have q1 := bq.cell1
    have hzl : l2.length = 0 ↔ y' = 0 := by rw [← zI_zero i2.can, i2.val]
    have hxl := i1.len
    have hyl := i2.len
    by_cases hye : y' = 0
    · have hl0 : ¬ (0 : Int) < (l2.length : Int) := by have := hzl.2 hye; omega
      have bx := HBX8.out _ hbl
      have x0 := bx.cell0
      have x1 := bx.cell1
      have f0 := bx.free 0
      have f1 := bx.free 1
      obtain ⟨k0, k1, k2⟩ := bx.back (.bool n1) (.slice A1 l1.length c1)
      have hxz : x' = z := by
        have := hG.out.2.2
        rw [hye, Int.natAbs_zero, Nat.gcd_zero_right] at this
        omega
      rw [hxz] at i1
      have HI1 := Lib.hid i1
      have HBX9 := Lib.hid bx
      have HBL := Lib.hid (bt HK.out hbl)
      clear hxz hzl hye i1 i2 bp bq bx hbl
      go_wp2_with fail
      refine bodyPost_ret (v := .agg #[.bool n1, .slice A1 l1.length c1]) (by simp [results, Tryz.results25, go_sem, k0, k2]) rfl ?_
      exact riv_store HBL.out (by omega) HBX9.out HI1.out
    · have hl0 : (0 : Int) < (l2.length : Int) := by
        rcases Nat.eq_zero_or_pos l2.length with h | h
        · exact absurd (hzl.1 h) hye
        · omega
      by_cases hnat : x'.natAbs < 4611686018427387904 ∧ y'.natAbs < 4611686018427387904
      · have HN := Lib.hid hnat
        have HYE := Lib.hid hye
        have HI1 := Lib.hid i1
        have HI2 := Lib.hid i2
        have HBP := Lib.hid bp
        have HBQ := Lib.hid bq
        have HBL := Lib.hid hbl
        clear hnat hye hzl i1 i2 bp bq hbl
        go_wp2_with fail
        refine (Rnative_yes HI1.out HN.out.1).mono ?_
        rintro e w2 ⟨rfl, hb2⟩
        have r0 := (HBQ.out.below hb2).cell0
        have r1 := (HBQ.out.below hb2).cell1
        clear p0 p1 q0 q1
        go_wp2_with fail
        refine (Rnative_yes (HI2.out.below hb2) HN.out.2).mono ?_
        rintro e w3 ⟨rfl, hb3⟩
        go_wp2_with fail
        have HB23 := Lib.hid (bt hb2 hb3)
        have HL3 := Lib.hid (bt HBL.out (bt hb2 hb3))
        have hbd : x'.natAbs < 4611686018427387904 ∧ y'.natAbs < 4611686018427387904 := HN.out
        obtain ⟨m0, hm0⟩ : ∃ m0 : Nat, x' = (m0 : Int) := ⟨x'.toNat, by omega⟩
        obtain ⟨n0, hn0⟩ : ∃ n0 : Nat, y' = (n0 : Int) := ⟨y'.toNat, by omega⟩
        have hg0 : Hid (((Nat.gcd m0 n0 : Nat) : Int) = z) := Lib.hid (by
          have := hG.out.2.2
          rwa [hm0, hn0, Int.natAbs_natCast, Int.natAbs_natCast] at this)
        have hm1 : m0 < 4611686018427387904 := by omega
        have hn1 : n0 < 4611686018427387904 := by omega
        clear hb2 hb3 r0 r1 hx0 hy0 hbd
        go_loopw [7, 9] (fun mv nv w4 => ∃ m n : Nat, mv = .int .i64 (m : Int) ∧ nv = .int .i64 (n : Int) ∧ m < 4611686018427387904 ∧ n < 4611686018427387904 ∧ Hid (((Nat.gcd m n : Nat) : Int) = z) ∧ Hid (Below w1.heap.size w1 w4)) (fun _ nv _ => (intOf nv).toNat)
        case atStart => exact ⟨m0, n0, by rw [hm0], by rw [hn0], hm1, hn1, hg0, HL3⟩
        case round =>
          clear hm0 hn0 hm1 hn1 hg0
          obtain ⟨m, n, rfl, rfl, hm, hn, hgg, hB4⟩ := hrel
          by_cases hnz : n = 0
          · subst hnz
            have hmz : (m : Int) = z := by have := hgg.out; rwa [Nat.gcd_zero_right] at this
            clear hgg
            have hzb : -9223372036854775808 ≤ z ∧ z ≤ 9223372036854775807 := by omega
            rw [hmz] at *
            have bx := HBX8.out _ hB4.out
            have x0 := bx.cell0
            have x1 := bx.cell1
            have f0 := bx.free 0
            have f1 := bx.free 1
            have HBX9 := Lib.hid bx
            clear bx
            go_wp2_with fail
            refine (ROf_iv wr z (by omega) (by omega)).mono ?_
            rintro e w5 ⟨n5, A5, c5, l5, rfl, i5, hb5⟩
            have bx := HBX9.out.below hb5
            have y0 := bx.cell0
            have y1 := bx.cell1
            have g0 := bx.free 0
            have g1 := bx.free 1
            obtain ⟨k0, k1, k2⟩ := bx.back (.bool n5) (.slice A5 l5.length c5)
            have HI5 := Lib.hid i5
            have HBX10 := Lib.hid bx
            have HB5 := Lib.hid hb5
            clear bx i5 hb5 x0 x1 f0 f1
            go_wp2_with fail
            refine bodyPost_ret (v := .agg #[.bool n5, .slice A5 l5.length c5]) (by simp [results, Tryz.results25, go_sem, k0, k2]) rfl ?_
            exact riv_store (bt HK.out (bt hB4.out HB5.out)) (by omega) HBX10.out HI5.out
          · have hng : (0 : Int) < (n : Int) := by omega
            have hng2 : 0 < n := by omega
            have hnb : ((n : Int) == 0) = false := beq_eq_false_iff_ne.2 (by omega)
            have hne0 : ¬ (n : Int) = 0 := by omega
            have hlt2 : m % n < n := Nat.mod_lt _ (by omega)
            obtain ⟨r, hr⟩ : ∃ r, r = m % n := ⟨_, rfl⟩
            have hmod : (m : Int).tmod (n : Int) = (r : Int) := by rw [Int.tmod_eq_emod_of_nonneg (by omega), hr]; simp
            have hgr : Hid (((Nat.gcd n r : Nat) : Int) = z) := Lib.hid (by
              have h := hgg.out
              rwa [Nat.gcd_comm, Nat.gcd_rec, ← hr, Nat.gcd_comm] at h)
            rw [← hr] at hlt2
            have hrw : wrap64 (r : Int) = (r : Int) := by unfold wrap64; omega
            have HRN := Lib.hid hlt2
            clear hr hgg
            go_wp2_with fail
            clear hrw
            go_region_law fail
            all_goals
              go_simp
              go_roundw
              case rel => exact ⟨_, _, _, _, _, _, _, _, ⟨n, r, rfl, rfl, by omega, by have := HRN.out; omega, hgr, Lib.hid (bw hB4.out)⟩, rfl⟩
              case measure => have := HRN.out; simp [intOf]; omega
      · have HYE := Lib.hid hye
        have HI1 := Lib.hid i1
        have HI2 := Lib.hid i2
        have HBP := Lib.hid bp
        have HBQ := Lib.hid bq
        have HBL := Lib.hid hbl
        clear hye hzl i1 i2 bp bq hbl
        rcases (show (x'.natAbs < 4611686018427387904 ∧ 4611686018427387904 ≤ y'.natAbs) ∨ (4611686018427387904 ≤ x'.natAbs ∧ y'.natAbs < 4611686018427387904) ∨ (4611686018427387904 ≤ x'.natAbs ∧ 4611686018427387904 ≤ y'.natAbs) by omega) with hn | hn | hn
        all_goals clear hnat
        · have HN := Lib.hid hn
          clear hn
          go_wp2_with fail
          refine (Rnative_yes HI1.out HN.out.1).mono ?_
          rintro e w2 ⟨rfl, hb2⟩
          have r0 := (HBQ.out.below hb2).cell0
          have r1 := (HBQ.out.below hb2).cell1
          clear p0 p1 q0 q1
          go_wp2_with fail
          refine (Rnative_no (HI2.out.below hb2) HN.out.2).mono ?_
          rintro e w3 ⟨rfl, hb3⟩
          have HB23 := Lib.hid (bt hb2 hb3)
          have p0 := (HBP.out.below HB23.out).cell0
          have p1 := (HBP.out.below HB23.out).cell1
          have q0 := (HBQ.out.below HB23.out).cell0
          have q1 := (HBQ.out.below HB23.out).cell1
          clear r0 r1 hb2 hb3
          go_wp2_with fail
          go_region_law (go_simp; go_at_call 96; refine (RMod_iv ((HI1.out.below HB23.out).below (by repeat (first | exact b0 _ | apply bw | apply bd))) ((HI2.out.below HB23.out).below (by repeat (first | exact b0 _ | apply bw | apply bd))) HYE.out).mono ?_; rintro e w5 ⟨n5, A5, c5, l5, rfl, i5, hb5⟩; have hb6 := bt (show Below w3.heap.size w3 _ from by repeat (first | exact b0 _ | apply bw | apply bd)) hb5; have hp5 := (HBP.out.below HB23.out).below hb6; have hq5 := (HBQ.out.below HB23.out).below hb6; have s0 := hp5.cell0; have s1 := hp5.cell1; have s2 := hp5.free 0; have s3 := hp5.free 1; have t0 := hq5.cell0; have t1 := hq5.cell1; have t2 := hq5.free 0; have t3 := hq5.free 1)
          all_goals
            go_simp
            have hw35 := bt HB23.out hb6
            have hPW := (hP.out.set_p hw35 (HI2.out.below hw35)).set_q (b0 _) (i5.two hp5 (.bool n2) (.slice A2 l2.length c2))
            have HPW := Lib.hid hPW
            clear hPW s0 s1 s2 s3 t0 t1 t2 t3
            go_roundw
            case rel =>
              repeat apply Exists.intro
              exact ⟨⟨y', x' % y', hy0, Int.emod_nonneg _ HYE.out, Lib.hid ⟨hG.out.2.1, lt_emod HYE.out hG.out.2.1, by have h := hG.out.2.2; rwa [← gcd_mod' hx0 hy0] at h⟩, HPW⟩, rfl⟩
            case measure =>
              have h1 := HMZ.out _ _ _ HPW.out
              have h2 := HMZ.out _ _ _ hP.out
              rw [h1, h2]
              have h3 := Int.emod_nonneg x' HYE.out
              have h4 := Int.emod_lt x' HYE.out
              omega
        · have HN := Lib.hid hn
          clear hn
          go_wp2_with fail
          refine (Rnative_no HI1.out HN.out.1).mono ?_
          rintro e w2 ⟨rfl, hb2⟩
          have r0 := (HBQ.out.below hb2).cell0
          have r1 := (HBQ.out.below hb2).cell1
          clear p0 p1 q0 q1
          go_wp2_with fail
          refine (Rnative_yes (HI2.out.below hb2) HN.out.2).mono ?_
          rintro e w3 ⟨rfl, hb3⟩
          have HB23 := Lib.hid (bt hb2 hb3)
          have p0 := (HBP.out.below HB23.out).cell0
          have p1 := (HBP.out.below HB23.out).cell1
          have q0 := (HBQ.out.below HB23.out).cell0
          have q1 := (HBQ.out.below HB23.out).cell1
          clear r0 r1 hb2 hb3
          go_wp2_with fail
          go_region_law (go_simp; go_at_call 96; refine (RMod_iv ((HI1.out.below HB23.out).below (by repeat (first | exact b0 _ | apply bw | apply bd))) ((HI2.out.below HB23.out).below (by repeat (first | exact b0 _ | apply bw | apply bd))) HYE.out).mono ?_; rintro e w5 ⟨n5, A5, c5, l5, rfl, i5, hb5⟩; have hb6 := bt (show Below w3.heap.size w3 _ from by repeat (first | exact b0 _ | apply bw | apply bd)) hb5; have hp5 := (HBP.out.below HB23.out).below hb6; have hq5 := (HBQ.out.below HB23.out).below hb6; have s0 := hp5.cell0; have s1 := hp5.cell1; have s2 := hp5.free 0; have s3 := hp5.free 1; have t0 := hq5.cell0; have t1 := hq5.cell1; have t2 := hq5.free 0; have t3 := hq5.free 1)
          all_goals
            go_simp
            have hw35 := bt HB23.out hb6
            have hPW := (hP.out.set_p hw35 (HI2.out.below hw35)).set_q (b0 _) (i5.two hp5 (.bool n2) (.slice A2 l2.length c2))
            have HPW := Lib.hid hPW
            clear hPW s0 s1 s2 s3 t0 t1 t2 t3
            go_roundw
            case rel =>
              repeat apply Exists.intro
              exact ⟨⟨y', x' % y', hy0, Int.emod_nonneg _ HYE.out, Lib.hid ⟨hG.out.2.1, lt_emod HYE.out hG.out.2.1, by have h := hG.out.2.2; rwa [← gcd_mod' hx0 hy0] at h⟩, HPW⟩, rfl⟩
            case measure =>
              have h1 := HMZ.out _ _ _ HPW.out
              have h2 := HMZ.out _ _ _ hP.out
              rw [h1, h2]
              have h3 := Int.emod_nonneg x' HYE.out
              have h4 := Int.emod_lt x' HYE.out
              omega
        · have HN := Lib.hid hn
          clear hn
          go_wp2_with fail
          refine (Rnative_no HI1.out HN.out.1).mono ?_
          rintro e w2 ⟨rfl, hb2⟩
          have r0 := (HBQ.out.below hb2).cell0
          have r1 := (HBQ.out.below hb2).cell1
          clear p0 p1 q0 q1
          go_wp2_with fail
          refine (Rnative_no (HI2.out.below hb2) HN.out.2).mono ?_
          rintro e w3 ⟨rfl, hb3⟩
          have HB23 := Lib.hid (bt hb2 hb3)
          have p0 := (HBP.out.below HB23.out).cell0
          have p1 := (HBP.out.below HB23.out).cell1
          have q0 := (HBQ.out.below HB23.out).cell0
          have q1 := (HBQ.out.below HB23.out).cell1
          clear r0 r1 hb2 hb3
          go_wp2_with fail
          go_region_law (go_simp; go_at_call 96; refine (RMod_iv ((HI1.out.below HB23.out).below (by repeat (first | exact b0 _ | apply bw | apply bd))) ((HI2.out.below HB23.out).below (by repeat (first | exact b0 _ | apply bw | apply bd))) HYE.out).mono ?_; rintro e w5 ⟨n5, A5, c5, l5, rfl, i5, hb5⟩; have hb6 := bt (show Below w3.heap.size w3 _ from by repeat (first | exact b0 _ | apply bw | apply bd)) hb5; have hp5 := (HBP.out.below HB23.out).below hb6; have hq5 := (HBQ.out.below HB23.out).below hb6; have s0 := hp5.cell0; have s1 := hp5.cell1; have s2 := hp5.free 0; have s3 := hp5.free 1; have t0 := hq5.cell0; have t1 := hq5.cell1; have t2 := hq5.free 0; have t3 := hq5.free 1)
          all_goals
            go_simp
            have hw35 := bt HB23.out hb6
            have hPW := (hP.out.set_p hw35 (HI2.out.below hw35)).set_q (b0 _) (i5.two hp5 (.bool n2) (.slice A2 l2.length c2))
            have HPW := Lib.hid hPW
            clear hPW s0 s1 s2 s3 t0 t1 t2 t3
            go_roundw
            case rel =>
              repeat apply Exists.intro
              exact ⟨⟨y', x' % y', hy0, Int.emod_nonneg _ HYE.out, Lib.hid ⟨hG.out.2.1, lt_emod HYE.out hG.out.2.1, by have h := hG.out.2.2; rwa [← gcd_mod' hx0 hy0] at h⟩, HPW⟩, rfl⟩
            case measure =>
              have h1 := HMZ.out _ _ _ HPW.out
              have h2 := HMZ.out _ _ _ hP.out
              rw [h1, h2]
              have h3 := Int.emod_nonneg x' HYE.out
              have h4 := Int.emod_lt x' HYE.out
              omega
end Go.Proofs.YtgljdfblgpdaaaaGreatDoor
