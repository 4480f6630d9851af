/- Of and Small. -/
import Derived.Test.YtaaipcjbmdbndaaDoorNumInt3
import Derived.Test.YtaaipcjbmdbndaaDoorNumDiv2
import Derived.Handy
namespace Go.Proofs.YtaaipcjbmdbndaaDoor
open Go.RowKit

theorem wrap_neg (x : Nat) (h0 : 0 < x) (hx : x ≤ 9223372036854775808) : IntKind.u64.wrap (-(x : Int)) = 18446744073709551616 - (x : Int) := by
  simp [IntKind.wrap, IntKind.signed, IntKind.bits]
  omega
theorem wrap_neg2 (x : Nat) (h0 : 0 < x) (hx : x ≤ 9223372036854775808) : IntKind.u64.wrap (-(18446744073709551616 - (x : Int))) = (x : Int) := by
  simp [IntKind.wrap, IntKind.signed, IntKind.bits]
  omega

set_option maxRecDepth 100000 in
set_option maxHeartbeats 400000 in
theorem Of_neg (a w : World) (x : Nat) (h0 : 0 < x) (hx : x ≤ 9223372036854775808) (hw : Below a.heap.size a w) :
    Calls Tryd.prog 19 #[.int .i64 (-(x : Int))] w (IRes a (-(x : Int))) := by
  have hlt0 : decide (-(x : Int) < 0) = true := by simp; omega
  have e1 := wrap_neg x h0 hx
  have e2 := wrap_neg2 x h0 hx
  go_enter Tryd.func19, Tryd.ntmps19
  go_wp2_with fail
  refine (fromSingle_any _ _ x (by omega) (b0 _)).mono ?_
  rintro e w1 ⟨A, c, l, rfl, hc, ho, ht, hv, hb⟩
  have hlen : l.length ≤ 2 := top_len ht (by rw [hv]; show x < 4294967296 ^ 2; omega)
  have HV := Lib.hid hv
  clear hv
  go_wp2_with fail
  refine (signed_res _ _ true A c l (by omega) hc ho ht hb).mono ?_
  rintro e w2 ⟨ng, A2, c2, l2, rfl, hc2, hl2, hB, hz, hb2⟩
  have hbx := (Box2.new w (.bool false) (.slice none 0 0)).below hb2
  have q0 := hbx.cell0
  have q1 := hbx.cell1
  have f0 := hbx.free 0
  have f1 := hbx.free 1
  obtain ⟨k0, k1, k2⟩ := hbx.back (.bool ng) (.slice A2 l2.length c2)
  have HZ := Lib.hid hz
  have HBB := Lib.hid hB
  clear hz hB
  go_wp2_with fail
  refine bodyPost_ret (v := .agg #[.bool ng, .slice A2 l2.length c2]) (by simp [results, Tryd.results19, go_sem, k0, k2]) rfl ?_
  exact ires_store hw (ba (b0 _) _) (by simp) (Nat.le_refl _) hc2 hl2 HBB.out (by rw [HZ.out]; show -(val l : Int) = _; rw [HV.out]) hb2

/-- What Small returns: the value and the error. -/
def smallV (p neg : Bool) (l : List Nat) : Int × Int :=
  if !p then (0, 3) else if l.length > 2 then (0, 2) else if val l > 9223372036854775808 || (val l = 9223372036854775808 && !neg) then (0, 2) else (zI neg l, 0)

set_option maxRecDepth 100000 in
set_option maxHeartbeats 400000 in
theorem Small_any (neg : Bool) (A : Option Addr) (n c : Nat) (l : List Nat) (p : Bool) (w : World) (hn : l.length = n) (hm : n ≤ 4000000) (hl : WS w A l) (hp : isB neg l = p) :
    Calls Tryd.prog 33 #[.agg #[.bool neg, .slice A n c]] w fun e w' => e = .returned (.tuple #[.int .i64 (smallV p neg l).1, .int .i64 (smallV p neg l).2]) ∧ Below w.heap.size w w' := by
  subst hn
  have HP := Lib.hid hp
  clear hp
  cases p
  · rw [show smallV false neg l = (0, 3) from rfl]
    go_enter Tryd.func33, Tryd.ntmps33
    go_wp2_with fail
    refine (Is_any neg A _ c l _ rfl hm (hl.below (ba (b0 _) _))).mono ?_
    rintro e w1 ⟨rfl, hb⟩
    rw [HP.out]
    go_wp2_with fail
    go_returns
    exact ⟨rfl, bt (ba (b0 _) _) hb⟩
  · by_cases h2 : l.length > 2
    · rw [show smallV true neg l = (0, 2) from by simp [smallV, h2]]
      have h2i : (2 : Int) < (l.length : Int) := by omega
      go_enter Tryd.func33, Tryd.ntmps33
      go_wp2_with fail
      refine (Is_any neg A _ c l _ rfl hm (hl.below (ba (b0 _) _))).mono ?_
      rintro e w1 ⟨rfl, hb⟩
      rw [HP.out]
      have hbx := (Box2.new w (.bool neg) (.slice A l.length c)).below hb
      have c0 := hbx.cell0
      have c1 := hbx.cell1
      go_wp2_with fail
      go_returns
      exact ⟨rfl, bt (ba (b0 _) _) hb⟩
    · have h2i : ¬ (2 : Int) < (l.length : Int) := by omega
      have ev := val_two (by omega : l.length ≤ 2)
      have b1 := hl.lt 0
      have b2' := hl.lt 1
      obtain ⟨m, hm1⟩ : ∃ m, m = val l := ⟨_, rfl⟩
      have hml : m < 18446744073709551616 := by omega
      have hsing := fun W h => single_any A l.length c l W rfl hm h
      rw [← ev, ← hm1] at hsing
      have HS := Lib.hid hsing
      have HM := Lib.hid hm1
      have hS : smallV true neg l = if m > 9223372036854775808 || (m = 9223372036854775808 && !neg) then (0, 2) else ((if neg then -(m : Int) else (m : Int)), 0) := by
        simp only [smallV, Bool.not_true, Bool.false_eq_true, if_false, h2, zI, hm1]
      rw [hS]
      clear ev hm1 hsing hS b1 b2'
      by_cases hgt : m > 9223372036854775808
      · have hgi : (9223372036854775808 : Int) < (m : Int) := by omega
        rw [if_pos (by simp [hgt])]
        go_enter Tryd.func33, Tryd.ntmps33
        go_wp2_with fail
        refine (Is_any neg A _ c l _ rfl hm (hl.below (ba (b0 _) _))).mono ?_
        rintro e w1 ⟨rfl, hb⟩
        rw [HP.out]
        have hbx := (Box2.new w (.bool neg) (.slice A l.length c)).below hb
        have c0 := hbx.cell0
        have c1 := hbx.cell1
        go_wp2_with fail
        refine (HS.out w1 (hl.below (bt (ba (b0 _) _) hb))).mono ?_
        rintro e w2 ⟨rfl, rfl⟩
        go_wp2_with fail
        go_returns
        exact ⟨rfl, bt (ba (b0 _) _) hb⟩
      · have hgi : ¬ (9223372036854775808 : Int) < (m : Int) := by omega
        by_cases heq : m = 9223372036854775808
        · subst heq
          cases neg
          · rw [if_pos (by simp)]
            go_enter Tryd.func33, Tryd.ntmps33
            go_wp2_with fail
            refine (Is_any false A _ c l _ rfl hm (hl.below (ba (b0 _) _))).mono ?_
            rintro e w1 ⟨rfl, hb⟩
            rw [HP.out]
            have hbx := (Box2.new w (.bool false) (.slice A l.length c)).below hb
            have c0 := hbx.cell0
            have c1 := hbx.cell1
            go_wp2_with fail
            refine (HS.out w1 (hl.below (bt (ba (b0 _) _) hb))).mono ?_
            rintro e w2 ⟨rfl, rfl⟩
            go_wp2_with fail
            go_returns
            exact ⟨rfl, bt (ba (b0 _) _) hb⟩
          · rw [if_neg (by simp)]
            have e0 : IntKind.u64.wrap (-9223372036854775808) = 9223372036854775808 := by decide
            have e00 : wrap64 9223372036854775808 = -9223372036854775808 := by unfold wrap64; omega
            go_enter Tryd.func33, Tryd.ntmps33
            go_wp2_with fail
            refine (Is_any true A _ c l _ rfl hm (hl.below (ba (b0 _) _))).mono ?_
            rintro e w1 ⟨rfl, hb⟩
            rw [HP.out]
            have hbx := (Box2.new w (.bool true) (.slice A l.length c)).below hb
            have c0 := hbx.cell0
            have c1 := hbx.cell1
            go_wp2_with fail
            refine (HS.out w1 (hl.below (bt (ba (b0 _) _) hb))).mono ?_
            rintro e w2 ⟨rfl, rfl⟩
            go_wp2_with fail
            go_returns
            exact ⟨rfl, bt (ba (b0 _) _) hb⟩
        · have hei : ((m : Int) == 9223372036854775808) = false := beq_eq_false_iff_ne.2 (by omega)
          rw [if_neg (by simp; omega)]
          have hw1 : IntKind.i64.wrap (m : Int) = (m : Int) := IntWalk.i64_in _ ⟨by omega, by omega⟩
          have hw2 : IntKind.i64.wrap (IntKind.u64.wrap (-(m : Int))) = -(m : Int) := by
            rcases Nat.eq_zero_or_pos m with h0 | h0
            · subst h0; rfl
            · rw [IntKind.wrap_i64, IntKind.wrap_u64]; omega
          cases neg
          · go_enter Tryd.func33, Tryd.ntmps33
            go_wp2_with fail
            refine (Is_any false A _ c l _ rfl hm (hl.below (ba (b0 _) _))).mono ?_
            rintro e w1 ⟨rfl, hb⟩
            rw [HP.out]
            have hbx := (Box2.new w (.bool false) (.slice A l.length c)).below hb
            have c0 := hbx.cell0
            have c1 := hbx.cell1
            go_wp2_with fail
            refine (HS.out w1 (hl.below (bt (ba (b0 _) _) hb))).mono ?_
            rintro e w2 ⟨rfl, rfl⟩
            go_wp2_with fail
            go_returns
            exact ⟨rfl, bt (ba (b0 _) _) hb⟩
          · go_enter Tryd.func33, Tryd.ntmps33
            go_wp2_with fail
            refine (Is_any true A _ c l _ rfl hm (hl.below (ba (b0 _) _))).mono ?_
            rintro e w1 ⟨rfl, hb⟩
            rw [HP.out]
            have hbx := (Box2.new w (.bool true) (.slice A l.length c)).below hb
            have c0 := hbx.cell0
            have c1 := hbx.cell1
            go_wp2_with fail
            refine (HS.out w1 (hl.below (bt (ba (b0 _) _) hb))).mono ?_
            rintro e w2 ⟨rfl, rfl⟩
            go_wp2_with fail
            go_returns
            exact ⟨rfl, bt (ba (b0 _) _) hb⟩
end Go.Proofs.YtaaipcjbmdbndaaDoor
