/- Gcd and inverse, of numbers of at most two words. -/
import Derived.Test.YtgljdfblgpdaaaaGreatDoorNumFin
import Derived.Test.YtgljdfblgpdaaaaGreatDoorNumSum
import Derived.BigQuiet
import Derived.Test.YtgljdfblgpdaaaaGreatDoorNumDivI
set_option linter.unusedSimpArgs false
set_option linter.unusedVariables false
/-! Gcd and inverse, of numbers of at most two words. -/
namespace Go.Proofs.YtgljdfblgpdaaaaGreatDoor
open Go.RowKit

set_option maxRecDepth 100000 in
set_option maxHeartbeats 1000000 in
theorem Gcd_small (a w : World) (na nb : Bool) (A B : Option Addr) (n c m d : Nat) (l k : List Nat) (p q : Bool) (hn : l.length = n) (hm : k.length = m) (hnm : n ≤ 2) (hmm : m ≤ 2) (hl : WS w A l) (hk : WS w B k) (hp : isB na l = p) (hq : isB nb k = q) (hw : Below a.heap.size a w) :
    Calls Tryz.prog 24 #[.agg #[.bool na, .slice A n c], .agg #[.bool nb, .slice B m d]] w (IRes a (ite0 (p && q) (Nat.gcd (val l) (val k) : Nat))) := by
  subst hn hm
  have HP := Lib.hid hp
  have HQ := Lib.hid hq
  clear hp hq
  by_cases hpq : (p && q) = true
  · obtain ⟨rfl, rfl⟩ : p = true ∧ q = true := by simpa using hpq
    clear hpq
    rw [show ite0 (true && true) ((Nat.gcd (val l) (val k) : Nat) : Int) = ((Nat.gcd (val l) (val k) : Nat) : Int) from rfl]
    go_enter Tryz.func24, Tryz.ntmps24
    go_wp2_with fail
    refine (both_any na nb A B _ c _ d l k true true _ rfl rfl (by omega) (by omega) (hl.below (ba (ba (ba (b0 _) _) _) _)) (hk.below (ba (ba (ba (b0 _) _) _) _)) HP.out HQ.out).mono ?_
    rintro e w1 ⟨rfl, hb⟩
    have hbx := (Box2.new ((w.alloc (.cells #[.bool na, .slice A l.length c] 24)).alloc (.cells #[.bool nb, .slice B k.length d] 24)) (.bool false) (.slice none 0 0)).below hb
    rw [World.size_alloc, World.size_alloc] at hbx
    have hby := (((Box2.new w (.bool na) (.slice A l.length c)).alloc (.cells #[.bool nb, .slice B k.length d] 24)).alloc (.cells #[.bool false, .slice none 0 0] 24)).below hb
    have hbz := ((Box2.new (w.alloc (.cells #[.bool na, .slice A l.length c] 24)) (.bool nb) (.slice B k.length d)).alloc (.cells #[.bool false, .slice none 0 0] 24)).below hb
    rw [World.size_alloc] at hbz
    have y0 := hby.cell0
    have y1 := hby.cell1
    have y2 := hbz.cell0
    have y3 := hbz.cell1
    have hl1 : WS w1 A l := hl.below (bt (ba (ba (ba (b0 _) _) _) _) hb)
    have hk1 : WS w1 B k := hk.below (bt (ba (ba (ba (b0 _) _) _) _) hb)
    go_wp2_with fail
    refine (divisor_small w1 A B l.length c k.length d l k rfl rfl hnm hmm (isB_top HP.out) (isB_top HQ.out) hl1 hk1).mono ?_
    rintro e w2 ⟨A1, c1, l1, rfl, hlc1, ho1, ht1, hv1, hb2⟩
    have hlen1 : l1.length ≤ 3 := top_len ht1 (by
      rw [hv1]
      have e1 : val l < BB 2 := Nat.lt_of_lt_of_le (val_lt hl.1) (BB_mono hnm)
      have e2 : val k < BB 2 := Nat.lt_of_lt_of_le (val_lt hk.1) (BB_mono hmm)
      have e3 : BB 2 < BB 3 := by decide
      rcases Nat.eq_zero_or_pos (val l) with h0 | h0
      · rw [h0, Nat.gcd_zero_left]; omega
      · have := Nat.gcd_le_left (val k) h0; omega)
    have HV1 := Lib.hid hv1
    clear hv1
    go_wp2_with fail
    refine (signed_res w1 _ false A1 c1 l1 (by omega) hlc1 ho1 ht1 hb2).mono ?_
    rintro e w3 ⟨ng, A3, c3, l3, rfl, hc3, hl3, hB3, hz3, hb3⟩
    have HZ3 := Lib.hid hz3
    have HB3 := Lib.hid hB3
    clear hz3 hB3
    have hbx3 := hbx.below hb3
    have x0 := hbx3.cell0
    have x1 := hbx3.cell1
    have f0 := hbx3.free 0
    have f1 := hbx3.free 1
    obtain ⟨k0, k1, k2⟩ := hbx3.back (.bool ng) (.slice A3 l3.length c3)
    go_wp2_with fail
    refine bodyPost_ret (v := .agg #[.bool ng, .slice A3 l3.length c3]) (by simp [results, Tryz.results24, go_sem, k0, k2]) rfl ?_
    refine ires_store hw (bt (ba (ba (ba (b0 _) _) _) _) hb) (by have := hb.size; simp at this; omega) (by omega) hc3 hl3 HB3.out ?_ hb3
    rw [HZ3.out]
    unfold zI
    rw [HV1.out]
    simp
  · have hf : (p && q) = false := by simpa using hpq
    rw [hf, show ite0 false ((Nat.gcd (val l) (val k) : Nat) : Int) = 0 from rfl]
    have HF := Lib.hid hf
    clear hpq hf
    go_enter Tryz.func24, Tryz.ntmps24
    go_wp2_with fail
    refine (both_any na nb A B _ c _ d l k p q _ rfl rfl (by omega) (by omega) (hl.below (ba (ba (ba (b0 _) _) _) _)) (hk.below (ba (ba (ba (b0 _) _) _) _)) HP.out HQ.out).mono ?_
    rintro e w1 ⟨rfl, hb⟩
    rw [HF.out]
    have hbx := (Box2.new ((w.alloc (.cells #[.bool na, .slice A l.length c] 24)).alloc (.cells #[.bool nb, .slice B k.length d] 24)) (.bool false) (.slice none 0 0)).below hb
    rw [World.size_alloc, World.size_alloc] at hbx
    have q0 := hbx.cell0
    have q1 := hbx.cell1
    have f0 := hbx.free 0
    have f1 := hbx.free 1
    obtain ⟨k0, k1, k2⟩ := hbx.back (.bool false) (.slice none 0 0)
    go_wp2_with fail
    refine bodyPost_ret (v := .agg #[.bool false, .slice none 0 0]) (by simp [results, Tryz.results24, go_sem, k0, k2]) rfl ?_
    exact ires_zero _ _ (b2 (bt (bt hw (ba (ba (ba (b0 _) _) _) _)) hb) (by have := hw.size; omega) _ _)
end Go.Proofs.YtgljdfblgpdaaaaGreatDoor

/-! inverse, of numbers of at most two words. -/
namespace Go.Proofs.YtgljdfblgpdaaaaGreatDoor
open Go.RowKit

/-- A call returned the greatest common divisor and the least factor. -/
def InvP (a : World) (neg : Bool) (x k : Nat) (e : Ending) (w' : World) : Prop := ∃ U, InvU neg x k U ∧ DRes a (Nat.gcd x k) U e w'

theorem Box2.only {W W' : World} {p g : Nat} {u v : Value} (h : Box2 W p u v) (hb : Only g W W') (hne : p ≠ g) : Box2 W' p u v := (hb.block p h.lt (fun e => hne (by injection e))).trans h

set_option maxRecDepth 100000 in
set_option maxHeartbeats 1000000 in
theorem inverse_small (w : World) (neg : Bool) (A B : Option Addr) (n c m d : Nat) (l k : List Nat) (hn : l.length = n) (hm : k.length = m) (hn2 : n ≤ 2) (hm2 : m ≤ 2) (tk : Top k) (hl : WS w A l) (hk : WS w B k) (h0 : val k ≠ 0) :
    Calls Tryz.prog 95 #[.agg #[.bool neg, .slice A n c], .slice B m d] w (InvP w neg (val l) (val k)) := by
  subst hn hm
  go_enter Tryz.func95, Tryz.ntmps95
  go_wp2_with fail
  obtain ⟨W1, hW1⟩ : ∃ W, W = w.alloc (.cells #[.bool neg, .slice A l.length c] 24) := ⟨_, rfl⟩
  have hbx : Box2 W1 w.heap.size (.bool neg) (.slice A l.length c) := by rw [hW1]; exact Box2.new _ _ _
  have hw1 : Below w.heap.size w W1 := by rw [hW1]; exact ba (b0 w) _
  rw [← hW1]
  clear hW1
  refine (divide_small W1 W1 A B l.length c k.length d l k rfl rfl hn2 hm2 (hl.below hw1) (hk.below hw1) h0 (b0 _)).mono ?_
  rintro e w2 ⟨A2, c2, l2, B2, d2, k2, rfl, hc2, ho2, ht2, hv2, hd2, hp2, hu2, hz2, hb2⟩
  have HV2 := Lib.hid hv2
  have HZ2 := Lib.hid hz2
  clear hv2 hz2
  go_wp2_with fail
  refine (own_any w2 w2 B k.length d k rfl (by omega) ((hk.below hw1).below hb2) (b0 _)).mono ?_
  rintro e w3 ⟨g1, rfl, hg1, hk1, hb3⟩
  go_wp2_with fail
  have hr0 : 0 < val k := Nat.pos_of_ne_zero h0
  have hmod : val k2 < val k := by rw [HZ2.out]; exact Nat.mod_lt _ hr0
  have hkl : val k < BB 2 := Nat.lt_of_lt_of_le (val_lt hk.1) (BB_mono hm2)
  have hk2l : k2.length ≤ 2 := top_len hu2 (by omega)
  obtain ⟨W5, hW5⟩ : ∃ W, W = w3.alloc (.cells #[.int .u32 1] 83) := ⟨_, rfl⟩
  have hone : Blk W5 w3.heap.size [1] := by rw [hW5]; exact Blk.new w3 [1] (by simp)
  have h35 : Below w3.heap.size w3 W5 := by rw [hW5]; exact ba (b0 _) _
  have hsz : w3.heap.size + 1 = W5.heap.size := by rw [hW5]; simp
  rw [← hW5, hsz]
  clear hW5
  have hs1 := hw1.size
  have hs2 := hb2.size
  have hs3 := hb3.size
  have hs35 := h35.size
  have hw5 : Below w.heap.size w W5 := bt (bt (bt hw1 hb2) hb3) h35
  have hbx5 := ((hbx.below hb2).below hb3).below h35
  have hall := ba (b0 W5) (.cells #[.slice (some ⟨g1, 0, none⟩) k.length k.length, .slice B2 k2.length d2, .slice none 0 0, .slice (some ⟨w3.heap.size, 0, none⟩) 1 1, .bool false] 125)
  refine (run_small w _ W5.heap.size _ B2 none _ k.length d2 0 1 k k2 [] [1] false hm2 hk2l (by simp) (by simp) (Nat.le_of_lt hmod) (fun _ => hr0) tk top_nil (fun _ => by simp [gd]) (Nat.le_refl _) (Nat.le_refl _) (Nat.le_refl _) (euc_new _ _)
    (own_of_blk (by omega) ((hk1.below h35).below hall)) (((hp2.below hb3).below h35).below hall).ws (fun h => absurd rfl h) (own_of_blk (a := w) (by omega) (hone.below hall)) (bt hw5 hall).size).mono ?_
  rintro e w6 ⟨g, p, q, u, v, odd, A', B', X', Y', ca', cb', cx', cy', la', lx', ly', rfl, hTR, hca', oa', ta', va', hs6, -, hcof, hO⟩
  obtain ⟨hcx', ox', tx', vx', hcy', oy', ty', vy'⟩ := hcof (by simp)
  rw [HZ2.out] at hTR
  obtain ⟨hg, hU⟩ := inv_of_tr (neg := neg) hr0 hTR
  have hw6 : Below w.heap.size w w6 := bo (bt hw5 hall) hO hw5.size
  have hbx6 := ((hbx5.below hall).only hO (by have := hbx5.lt; omega))
  have xq : val lx' = q := by rw [vx']; simp [val]
  have yv : val ly' = v := by rw [vy']; simp [val]
  have hTqv : q ≤ v := hTR.2.2.2.1
  have hvk : v ≤ val k := by
    have h := hTR.le' (by have := hTR.gcd; have := Nat.gcd_pos_of_pos_left (val l % val k) hr0; omega)
    exact h.2
  have hU' := Lib.hid hU
  have HX := Lib.hid xq
  have HY := Lib.hid yv
  have HG := Lib.hid (va'.trans hg)
  have z0 := hs6.at_ 0
  have z2 := hs6.at_ 2
  have z3 := hs6.at_ 3
  have z4 := hs6.at_ 4
  have x0 := hbx6.cell0
  simp at z0 z2 z3 z4
  clear hU xq yv va' hg hcof vx' vy' hsz hone h35 hbx5 hkl hmod hs1 hs2 hs3 hs35 hr0 h0
  by_cases hx0 : lx' = []
  · subst hx0
    have hq0 : q = 0 := HX.out.symm
    simp only [List.length_nil] at z2
    go_wp2_with fail
    go_quiet (fail)
    go_wp2_with fail
    go_returns
    refine ⟨_, hU'.out, A', ca', la', X', cx', [], rfl, hca', oa'.below (bd (b0 _) _), ta', HG.out, hcx', fun h => absurd rfl h, top_nil, ?_, bd hw6 _⟩
    rw [if_neg (by omega), hq0]; rfl
  · have hxl : (0 : Int) < (lx'.length : Int) := by have := List.length_pos_iff.2 hx0; omega
    by_cases hon : odd = neg
    · have hon' : (odd == neg) = true := by simpa using hon
      have hvl : v < BB 2 := Nat.lt_of_le_of_lt hvk (Nat.lt_of_lt_of_le (val_lt hk.1) (BB_mono hm2))
      have hyl : ly'.length ≤ 2 := top_len ty' (by rw [HY.out]; exact hvl)
      have hxyl : lx'.length ≤ ly'.length := top_len tx' (by rw [HX.out]; have := val_lt oy'.ws.1; rw [HY.out] at this; omega)
      clear hvl
      go_wp2_with fail
      go_region_held3 (fun W => W.cell? ⟨W5.heap.size, 0, none⟩ = some (.slice A' la'.length ca') ∧ W.cell? ⟨W5.heap.size, 2, none⟩ = some (.slice X' lx'.length cx') ∧ W.cell? ⟨W5.heap.size, 3, none⟩ = some (.slice Y' ly'.length cy'))
        (first | exact ⟨z0, z2, z3⟩ | exact ⟨v0, v2, v3⟩ | go_keep)
        (first
          | (go_at_call 88; refine (difference_any w6 _ Y' X' ly'.length cy' lx'.length cx' ly' lx' rfl rfl hxyl (by omega) (by rw [HX.out, HY.out]; exact hTqv) (oy'.ws.below (bd (b0 _) _)) (ox'.ws.below (bd (b0 _) _)) (bd (b0 _) _)).mono ?_; rintro e w7 ⟨A7, c7, l7, rfl, hc7, ho7, ht7, hv7, hb7⟩; have HV7 := Lib.hid hv7; clear hv7; have hs7 := hs6.below hb7; have v0 := hs7.at_ 0; have v2 := hs7.at_ 2; have v3 := hs7.at_ 3; simp at v0 v2 v3))
      go_wp2_with fail
      go_returns
      refine ⟨_, hU'.out, A', ca', la', A7, c7, l7, rfl, hca', oa'.below hb7, ta', HG.out, hc7, ho7.mono hw6.size, ht7, ?_, bt hw6 hb7⟩
      have hq0 : 0 < q := by rw [← HX.out]; exact val_pos tx' (List.length_pos_iff.2 hx0)
      rw [if_pos ⟨hq0, hon⟩, HV7.out, HX.out, HY.out]
    · have hon' : (odd == neg) = false := by simpa using hon
      go_wp2_with fail
      go_quiet (fail)
      go_wp2_with fail
      go_returns
      refine ⟨_, hU'.out, A', ca', la', X', cx', lx', rfl, hca', oa'.below (bd (b0 _) _), ta', HG.out, hcx', ox'.below (bd (b0 _) _), tx', ?_, bd hw6 _⟩
      rw [if_neg (fun h => hon h.2), HX.out]
end Go.Proofs.YtgljdfblgpdaaaaGreatDoor

/-! Bezout, of numbers of at most two words. -/
namespace Go.Proofs.YtgljdfblgpdaaaaGreatDoor
open Go.RowKit

/-- A call returned three integers in canonical form, and no error. -/
def BRes (a : World) (x y z : Int) (e : Ending) (w' : World) : Prop :=
  ∃ n1 A1 c1 l1 n2 A2 c2 l2 n3 A3 c3 l3, e = .returned (.tuple #[.agg #[.bool n1, .slice A1 l1.length c1], .agg #[.bool n2, .slice A2 l2.length c2], .agg #[.bool n3, .slice A3 l3.length c3], .int .i64 0]) ∧
    IP a w' n1 A1 c1 l1 x ∧ IP a w' n2 A2 c2 l2 y ∧ IP a w' n3 A3 c3 l3 z ∧ Below a.heap.size a w'
/-- What Bezout returns of integers with the absolute values x and y, y not 0. -/
def BezP (a : World) (na nb : Bool) (x y : Nat) (e : Ending) (w' : World) : Prop :=
  ∃ U, InvU na x y U ∧ BRes a (Nat.gcd x y : Nat) (U : Nat) (((Nat.gcd x y : Nat) - (U : Int) * (if na then -(x : Int) else (x : Int))) / (if nb then -(y : Int) else (y : Int))) e w'

abbrev bx (b : Bool) (A : Option Addr) (n c : Nat) : Obj := .cells #[.bool b, .slice A n c] 24
theorem boxes5 (w : World) (na nb : Bool) (A B : Option Addr) (n c m d : Nat) : ∃ W, W = ((((w.alloc (bx na A n c)).alloc (bx nb B m d)).alloc (bx false none 0 0)).alloc (bx false none 0 0)).alloc (bx false none 0 0) ∧ Below w.heap.size w W ∧
    Box2 W w.heap.size (.bool na) (.slice A n c) ∧ Box2 W (w.heap.size + 1) (.bool nb) (.slice B m d) ∧ Box2 W (w.heap.size + 1 + 1) (.bool false) (.slice none 0 0) ∧ Box2 W (w.heap.size + 1 + 1 + 1) (.bool false) (.slice none 0 0) ∧ Box2 W (w.heap.size + 1 + 1 + 1 + 1) (.bool false) (.slice none 0 0) := by
  refine ⟨_, rfl, ba (ba (ba (ba (ba (b0 _) _) _) _) _) _, ((((Box2.new w _ _).alloc _).alloc _).alloc _).alloc _, ?_, ?_, ?_, ?_⟩
  · have h := (((Box2.new (w.alloc (bx na A n c)) (.bool nb) (.slice B m d)).alloc (bx false none 0 0)).alloc (bx false none 0 0)).alloc (bx false none 0 0)
    rw [World.size_alloc] at h; exact h
  · have h := ((Box2.new ((w.alloc (bx na A n c)).alloc (bx nb B m d)) (.bool false) (.slice none 0 0)).alloc (bx false none 0 0)).alloc (bx false none 0 0)
    rw [World.size_alloc, World.size_alloc] at h; exact h
  · have h := (Box2.new (((w.alloc (bx na A n c)).alloc (bx nb B m d)).alloc (bx false none 0 0)) (.bool false) (.slice none 0 0)).alloc (bx false none 0 0)
    rw [World.size_alloc, World.size_alloc, World.size_alloc] at h; exact h
  · have h := Box2.new ((((w.alloc (bx na A n c)).alloc (bx nb B m d)).alloc (bx false none 0 0)).alloc (bx false none 0 0)) (.bool false) (.slice none 0 0)
    rw [World.size_alloc, World.size_alloc, World.size_alloc, World.size_alloc] at h; exact h

theorem val_zI_mul {n1 n2 n3 : Bool} {l1 l2 l3 : List Nat} (h : zI n1 l1 = zI n2 l2 * zI n3 l3) : val l1 = val l2 * val l3 := by
  have h1 : (zI n1 l1).natAbs = (zI n2 l2).natAbs * (zI n3 l3).natAbs := by rw [h, Int.natAbs_mul]
  have e : ∀ (n : Bool) (l : List Nat), (zI n l).natAbs = val l := fun n l => by cases n <;> simp [zI]
  rwa [e, e, e] at h1
theorem val_zI_sub {n1 n2 n3 : Bool} {l1 l2 l3 : List Nat} (h : zI n1 l1 = zI n2 l2 - zI n3 l3) : val l1 ≤ val l2 + val l3 := by
  unfold zI at h
  cases n1 <;> cases n2 <;> cases n3 <;> simp at h <;> omega
theorem s8 {W : World} {p q r s : Nat} {u0 u1 v0 v1 x0 x1 y0 y1 : Value} (h0 : Box2 W p u0 u1) (h1 : Box2 W q v0 v1) (h2 : Box2 W r x0 x1) (h3 : Box2 W s y0 y1) :
    W.cell? ⟨p, 0, none⟩ = some u0 ∧ W.cell? ⟨p, 1, none⟩ = some u1 ∧ W.cell? ⟨q, 0, none⟩ = some v0 ∧ W.cell? ⟨q, 1, none⟩ = some v1 ∧ W.cell? ⟨r, 0, none⟩ = some x0 ∧ W.cell? ⟨r, 1, none⟩ = some x1 ∧ W.cell? ⟨s, 0, none⟩ = some y0 ∧ W.cell? ⟨s, 1, none⟩ = some y1 :=
  ⟨h0.cell0, h0.cell1, h1.cell0, h1.cell1, h2.cell0, h2.cell1, h3.cell0, h3.cell1⟩
theorem s6 {W : World} {p q r : Nat} {u0 u1 v0 v1 x0 x1 : Value} (h0 : Box2 W p u0 u1) (h1 : Box2 W q v0 v1) (h2 : Box2 W r x0 x1) :
    W.cell? ⟨p, 0, none⟩ = some u0 ∧ W.cell? ⟨p, 1, none⟩ = some u1 ∧ W.cell? ⟨q, 0, none⟩ = some v0 ∧ W.cell? ⟨q, 1, none⟩ = some v1 ∧ W.cell? ⟨r, 0, none⟩ = some x0 ∧ W.cell? ⟨r, 1, none⟩ = some x1 :=
  ⟨h0.cell0, h0.cell1, h1.cell0, h1.cell1, h2.cell0, h2.cell1⟩
theorem signed_ip (a w : World) (neg : Bool) (A : Option Addr) (c : Nat) (l : List Nat) (hm : l.length ≤ 4000000) (hc : l.length ≤ c) (hl : OwnS a w A l) (ht : Top l) :
    Calls Tryz.prog 89 #[.bool neg, .slice A l.length c] w fun e w' => (∃ ng A3 c3 l3, e = .returned (.agg #[.bool ng, .slice A3 l3.length c3]) ∧ IP a w' ng A3 c3 l3 (zI neg l) ∧ l3.length ≤ l.length) ∧ Below w.heap.size w w' := by
  refine (signed_any neg A l.length c w hm).mono ?_
  rintro e w' ⟨rfl, hb⟩
  refine ⟨?_, hb⟩
  by_cases h0 : l.length = 0
  · rw [if_pos h0]
    obtain rfl := List.eq_nil_of_length_eq_zero h0
    exact ⟨false, none, 0, [], rfl, by rw [zI_nil]; exact IP.zero _ _, Nat.le_refl _⟩
  · rw [if_neg h0]
    exact ⟨neg, A, c, l, rfl, ⟨hc, hl.below hb, isB_of ht (fun h => absurd h h0), rfl⟩, Nat.le_refl _⟩

set_option maxRecDepth 100000 in
set_option maxHeartbeats 1000000 in
theorem Bezout_small (w : World) (na nb : Bool) (A B : Option Addr) (n c m d : Nat) (l k : List Nat) (hn : l.length = n) (hm : k.length = m) (hn2 : n ≤ 2) (hm2 : m ≤ 2) (hl : WS w A l) (hk : WS w B k) (hp : isB na l = true) (hq : isB nb k = true) (hk0 : 0 < k.length) (hfit : val k * (val l + 1) < BB 2) :
    Calls Tryz.prog 15 #[.agg #[.bool na, .slice A n c], .agg #[.bool nb, .slice B m d]] w (BezP w na nb (val l) (val k)) := by
  subst hn hm
  have HP := Lib.hid hp
  have HQ := Lib.hid hq
  have hkz : ((k.length : Int) == 0) = false := beq_eq_false_iff_ne.2 (by omega)
  have HT := Lib.hid (isB_top hq)
  have hv0 := val_pos (isB_top hq) hk0
  have HV0 := Lib.hid hv0
  clear hp hq hv0
  obtain ⟨W1, hW1, hw1, x0, x1, x2, x3, x4⟩ := boxes5 w na nb A B l.length c k.length d
  obtain ⟨R, hR⟩ : ∃ R, R = BezP w na nb (val l) (val k) := ⟨_, rfl⟩
  rw [← hR]
  have HR := Lib.hid hR
  clear hR
  go_enter Tryz.func15, Tryz.ntmps15
  go_wp2_with fail
  rw [← hW1]
  clear hW1
  refine (both_any na nb A B _ c _ d l k true true _ rfl rfl (by omega) (by omega) (hl.below hw1) (hk.below hw1) HP.out HQ.out).mono ?_
  rintro e w1 ⟨rfl, hb⟩
  have hw1' := bt hw1 hb
  have y0 := x0.below hb
  have y1 := x1.below hb
  have y2 := x2.below hb
  have y3 := x3.below hb
  have y4 := x4.below hb
  clear x0 x1 x2 x3 x4
  have c0 := y0.cell0
  have c1 := y0.cell1
  have c2 := y1.cell0
  have c3 := y1.cell1
  go_wp2_with fail
  refine (inverse_small w1 na A B l.length c k.length d l k rfl rfl hn2 hm2 HT.out (hl.below hw1') (hk.below hw1') (Nat.ne_of_gt HV0.out)).mono ?_
  rintro e w2 ⟨U, hU, A2, c2', l2, B2, d2, k2, rfl, hc2, ho2, ht2, hv2, hd2, hp2, hu2, hz2, hb2⟩
  have HU := Lib.hid hU
  have HV2 := Lib.hid hv2
  have HZ2 := Lib.hid hz2
  clear hU hv2 hz2
  have hkl : val k < BB 2 := Nat.lt_of_lt_of_le (val_lt hk.1) (BB_mono hm2)
  have hg1 : 0 < Nat.gcd (val l) (val k) := Nat.gcd_pos_of_pos_right _ HV0.out
  have hUk : U < val k := by
    have h := HU.out.1
    exact Nat.lt_of_le_of_lt (Nat.le_mul_of_pos_right U hg1) h
  have hgk : Nat.gcd (val l) (val k) ≤ val k := Nat.gcd_le_right _ HV0.out
  have hl2 : l2.length ≤ 2 := top_len ht2 (by rw [HV2.out]; omega)
  have hk2 : k2.length ≤ 2 := top_len hu2 (by rw [HZ2.out]; omega)
  go_wp2_with fail
  refine (signed_ip w1 w2 false A2 c2' l2 (by omega) hc2 ho2 ht2).mono ?_
  rintro e w3 ⟨⟨n3, A3, c3', l3, rfl, hi3, hl3⟩, hb3⟩
  go_wp2_with fail
  refine (signed_ip w1 w3 false B2 d2 k2 (by omega) hd2 (hp2.below hb3) hu2).mono ?_
  rintro e w4 ⟨⟨n4, A4, c4, l4, rfl, hi4, hl4⟩, hb4⟩
  have hb14 := bt (bt hb2 hb3) hb4
  have z0 := y0.below hb14
  have z1 := y1.below hb14
  have z2 := y2.below hb14
  have z3 := y3.below hb14
  have z4 := y4.below hb14
  have l2' := y2.lt
  have l3' := y3.lt
  have l4' := y4.lt
  clear c0 c1 c2 c3
  have v20 := z2.cell0
  have v21 := z2.cell1
  have v30 := z3.cell0
  have v31 := z3.cell1
  have f20 := z2.free 0
  have f21 := z2.free 1
  have f30 := z3.free 0
  have f31 := z3.free 1
  go_wp2_with fail
  obtain ⟨W5, hW5⟩ : ∃ W, W = ((((w4.setCell ⟨w.heap.size + 1 + 1, 0, none⟩ (.bool n3)).setCell ⟨w.heap.size + 1 + 1, 1, none⟩ (.slice A3 l3.length c3')).setCell ⟨w.heap.size + 1 + 1 + 1, 0, none⟩ (.bool n4)).setCell ⟨w.heap.size + 1 + 1 + 1, 1, none⟩ (.slice A4 l4.length c4)) := ⟨_, rfl⟩
  rw [← hW5]
  have r0 : Box2 W5 w.heap.size (.bool na) (.slice A l.length c) := by rw [hW5]; exact box2_far (box2_far z0 (by omega) _ _) (by omega) _ _
  have r1 : Box2 W5 (w.heap.size + 1) (.bool nb) (.slice B k.length d) := by rw [hW5]; exact box2_far (box2_far z1 (by omega) _ _) (by omega) _ _
  have r2 : Box2 W5 (w.heap.size + 1 + 1) (.bool n3) (.slice A3 l3.length c3') := by rw [hW5]; exact box2_far ((z2.set0 _).set1 _) (by omega) _ _
  have r3 : Box2 W5 (w.heap.size + 1 + 1 + 1) (.bool n4) (.slice A4 l4.length c4) := by rw [hW5]; exact ((box2_far z3 (by omega) _ _).set0 _).set1 _
  have r4 : Box2 W5 (w.heap.size + 1 + 1 + 1 + 1) (.bool false) (.slice none 0 0) := by rw [hW5]; exact box2_far (box2_far z4 (by omega) _ _) (by omega) _ _
  have ip3 : IP w1 W5 n3 A3 c3' l3 (zI false l2) := by rw [hW5]; exact ((hi3.below hb4).two l2' _ _).two l3' _ _
  have ip4 : IP w1 W5 n4 A4 c4 l4 (zI false k2) := by rw [hW5]; exact (hi4.two l2' _ _).two l3' _ _
  have hw5 : Below w.heap.size w W5 := by rw [hW5]; exact b2 (b2 (bt hw1' hb14) (by omega) _ _) (by omega) _ _
  have hW5e := hW5
  clear hW5 z0 z1 z2 z3 z4 v20 v21 v30 v31 f20 f21 f30 f31 y0 y1 y2 y3 y4
  have hv4 : val l4 = U := by
    have h := ip4.2.2.2
    unfold zI at h
    rw [HZ2.out] at h
    cases n4 <;> simp at h <;> omega
  have hv3 : val l3 = Nat.gcd (val l) (val k) := by
    have h := ip3.2.2.2
    unfold zI at h
    rw [HV2.out] at h
    cases n3 <;> simp at h <;> omega
  have hUx : U * val l ≤ val k * val l := Nat.mul_le_mul_right _ (Nat.le_of_lt hUk)
  rw [Nat.mul_add, Nat.mul_one] at hfit
  have hl5 := hl.below hw5
  have hk5 := hk.below hw5
  have w51 := (bt hw1' hb14)
  have hs15 : w1.heap.size ≤ W5.heap.size := by have := hb14.size; rw [hW5e]; simpa [World.setCell] using this
  clear hW5e
  have lt0 := r0.lt
  have lt4 := r4.lt
  go_region_held3 (fun W => W.cell? ⟨w.heap.size, 0, none⟩ = some (.bool na) ∧ W.cell? ⟨w.heap.size, 1, none⟩ = some (.slice A l.length c) ∧ W.cell? ⟨w.heap.size + 1, 0, none⟩ = some (.bool nb) ∧ W.cell? ⟨w.heap.size + 1, 1, none⟩ = some (.slice B k.length d) ∧ W.cell? ⟨w.heap.size + 1 + 1, 0, none⟩ = some (.bool n3) ∧ W.cell? ⟨w.heap.size + 1 + 1, 1, none⟩ = some (.slice A3 l3.length c3') ∧ W.cell? ⟨w.heap.size + 1 + 1 + 1, 0, none⟩ = some (.bool n4) ∧ W.cell? ⟨w.heap.size + 1 + 1 + 1, 1, none⟩ = some (.slice A4 l4.length c4))
    (first | exact s8 r0 r1 r2 r3 | exact s8 q0 q1 q2 q3 | exact s8 u0 u1 u2 u3 | exact s8 t0 t1 t2 t3 | exact s8 (box2_far t0 (by omega) _ _) (box2_far t1 (by omega) _ _) (box2_far t2 (by omega) _ _) (box2_far t3 (by omega) _ _))
    (first
      | (go_at_call 22; refine (Mul_any W5 _ n4 na A4 A l4.length c4 l.length c l4 l true true rfl rfl (by omega) (by omega) (ip4.2.1.ws.below (bd (b0 _) _)) (hl5.below (bd (b0 _) _)) ip4.2.2.1 HP.out (bd (b0 _) _)).mono ?_; rintro e w6 ⟨n6, A6, c6, l6, rfl, hc6, ho6, hB6, hz6, hb6⟩; have HZ6 := Lib.hid hz6; have HB6 := Lib.hid hB6; clear hz6 hB6; have q0 := r0.below hb6; have q1 := r1.below hb6; have q2 := r2.below hb6; have q3 := r3.below hb6; have hm6 : val l6 = U * val l := (val_zI_mul HZ6.out).trans (by rw [hv4]); have hl6 : l6.length ≤ 2 := top_len (isB_top HB6.out) (by rw [hm6]; omega); have HM6 := Lib.hid hm6; clear hm6)
      | (go_at_call 20; refine (Sub_any w6 _ n3 n6 A3 A6 l3.length c3' l6.length c6 l3 l6 true true rfl rfl (by omega) (by omega) (ip3.2.1.ws.below hb6) ho6.ws ip3.2.2.1 HB6.out (b0 _)).mono ?_; rintro e w7 ⟨n7, A7, c7, l7, rfl, hc7, ho7, hB7, hz7, hb7⟩; have HZ7 := Lib.hid hz7; have HB7 := Lib.hid hB7; clear hz7 hB7; have u0 := q0.below hb7; have u1 := q1.below hb7; have u2 := q2.below hb7; have u3 := q3.below hb7; have hl7 : l7.length ≤ 2 := top_len (isB_top HB7.out) (by have h := val_zI_sub HZ7.out; have h6 := HM6.out; omega))
      | (go_at_call 13; refine (Div_ok w7 _ n7 nb A7 B l7.length c7 k.length d l7 k rfl rfl (by omega) (by omega) ho7.ws (hk5.below (bt hb6 hb7)) HB7.out HQ.out hk0 (fun W hW => divide_small W W A7 B l7.length c7 k.length d l7 k rfl rfl hl7 hm2 (ho7.ws.below hW) ((hk5.below (bt hb6 hb7)).below hW) (Nat.ne_of_gt HV0.out) (b0 _)) (b0 _)).mono ?_; rintro e w8 ⟨n8, A8, c8, l8, n9, A9, c9, l9, rfl, hi8, hi9, hb8⟩; have t0 := u0.below hb8; have t1 := u1.below hb8; have t2 := u2.below hb8; have t3 := u3.below hb8; have t4 := r4.below (bt (bt hb6 hb7) hb8); have tc0 := t4.cell0; have tc1 := t4.cell1; have tf0 := t4.free 0; have tf1 := t4.free 1))
  rename_i hHeld
  clear hHeld
  obtain ⟨W9, hW9⟩ : ∃ W, W = ((w8.setCell ⟨w.heap.size + 1 + 1 + 1 + 1, 0, none⟩ (.bool n8)).setCell ⟨w.heap.size + 1 + 1 + 1 + 1, 1, none⟩ (.slice A8 l8.length c8)) := ⟨_, rfl⟩
  rw [← hW9]
  have e2 : Box2 W9 (w.heap.size + 1 + 1) (.bool n3) (.slice A3 l3.length c3') := by rw [hW9]; exact box2_far t2 (by omega) _ _
  have e3 : Box2 W9 (w.heap.size + 1 + 1 + 1) (.bool n4) (.slice A4 l4.length c4) := by rw [hW9]; exact box2_far t3 (by omega) _ _
  have e4 : Box2 W9 (w.heap.size + 1 + 1 + 1 + 1) (.bool n8) (.slice A8 l8.length c8) := by rw [hW9]; exact (t4.set0 _).set1 _
  have hb58 := bt (bt hb6 hb7) hb8
  have j3 : IP w1 W9 n3 A3 c3' l3 (zI false l2) := by rw [hW9]; exact (ip3.below hb58).two l4' _ _
  have j4 : IP w1 W9 n4 A4 c4 l4 (zI false k2) := by rw [hW9]; exact (ip4.below hb58).two l4' _ _
  have j8 : IP w1 W9 n8 A8 c8 l8 (zI n7 l7 / zI nb k) := by rw [hW9]; exact (hi8.mono (Nat.le_trans hs15 (bt hb6 hb7).size)).two l4' _ _
  have hw9 : Below w.heap.size w W9 := by rw [hW9]; exact b2 (bt hw5 hb58) (by omega) _ _
  clear hW9 t0 t1 t2 t3 t4 tc0 tc1 tf0 tf1 u0 u1 u2 u3 q0 q1 q2 q3 r0 r1 r2 r3 r4
  have HJ := Lib.hid (And.intro j3 (And.intro j4 j8))
  have HLE := Lib.hid (And.intro l2' (And.intro l3' l4'))
  have HSZ := Lib.hid hw1'.size
  clear hb hb2 hb3 hb4 hb6 hb7 hb8 hb14 hb58 j3 j4 j8 hi8 hi9 hi3 hi4 ip3 ip4 hl4 hl3 hl2 hk2 hl5 hk5 ho2 hp2 ho6 ho7 hUk hgk hUx hfit hl6 hl7 hc6 hc7 hw5 w51 hs15 lt0 lt4 hv4 hv3 hkl hg1 hw1 hw1' l2' l3' l4' hl hk hk0 ht2 hu2 hc2 hd2
  go_wp2_with fail
  refine wp_region_held_drew (S := fun W => W.cell? ⟨w.heap.size + 1 + 1, 0, none⟩ = some (.bool n3) ∧ W.cell? ⟨w.heap.size + 1 + 1, 1, none⟩ = some (.slice A3 l3.length c3') ∧ W.cell? ⟨w.heap.size + 1 + 1 + 1, 0, none⟩ = some (.bool n4) ∧ W.cell? ⟨w.heap.size + 1 + 1 + 1, 1, none⟩ = some (.slice A4 l4.length c4) ∧ W.cell? ⟨w.heap.size + 1 + 1 + 1 + 1, 0, none⟩ = some (.bool n8) ∧ W.cell? ⟨w.heap.size + 1 + 1 + 1 + 1, 1, none⟩ = some (.slice A8 l8.length c8)) (by kernel_rfl) (s6 e2 e3 e4) (fun hHeld => ?_)
  obtain ⟨Wd, hWd⟩ : ∃ W, W = W9.drew := ⟨_, rfl⟩
  rw [← hWd] at hHeld ⊢
  have bP0 : Box2 Wd (w.heap.size + 1 + 1) (.bool n3) (.slice A3 l3.length c3') := by rw [hWd]; exact e2
  have bQ0 : Box2 Wd (w.heap.size + 1 + 1 + 1) (.bool n4) (.slice A4 l4.length c4) := by rw [hWd]; exact e3
  have bR0 : Box2 Wd (w.heap.size + 1 + 1 + 1 + 1) (.bool n8) (.slice A8 l8.length c8) := by rw [hWd]; exact e4
  have JWd : (IP w1 Wd n3 A3 c3' l3 (zI false l2) ∧ IP w1 Wd n4 A4 c4 l4 (zI false k2) ∧ IP w1 Wd n8 A8 c8 l8 (zI n7 l7 / zI nb k)) ∧ Below w.heap.size w Wd := by rw [hWd]; exact ⟨⟨HJ.out.1.below (bw (b0 _)), HJ.out.2.1.below (bw (b0 _)), HJ.out.2.2.below (bw (b0 _))⟩, bw hw9⟩
  clear hWd e2 e3 e4 hw9
  refine wpAnyH_take (i := 0) (v := ?_) rfl (by kernel_rfl) (by kernel_rfl) (by kernel_rfl) (fun _ _ _ h => h) (Or.inl ⟨by rfl, ?_⟩) (by assumption) ?_
  rotate_left
  · (intro w hSw; (try dsimp only at hSw); go_simp; all_goals with_reducible rfl)
  try simp only [Act.put, List.setIfInBounds_toArray, List.set_cons_zero, List.set_cons_succ]
  refine wpAnyH_take (i := 1) (v := ?_) rfl (by kernel_rfl) (by kernel_rfl) (by kernel_rfl) (fun _ _ _ h => h) (Or.inl ⟨by rfl, ?_⟩) (by assumption) ?_
  rotate_left
  · (intro w hSw; (try dsimp only at hSw); go_simp; all_goals with_reducible rfl)
  try simp only [Act.put, List.setIfInBounds_toArray, List.set_cons_zero, List.set_cons_succ]
  refine wpAnyH_take (i := 2) (v := ?_) rfl (by kernel_rfl) (by kernel_rfl) (by kernel_rfl) (fun _ _ _ h => h) (Or.inl ⟨by rfl, ?_⟩) (by assumption) ?_
  rotate_left
  · (intro w hSw; (try dsimp only at hSw); go_simp; all_goals with_reducible rfl)
  try simp only [Act.put, List.setIfInBounds_toArray, List.set_cons_zero, List.set_cons_succ]
  refine wpAnyH_take (i := 3) (v := ?_) rfl (by kernel_rfl) (by kernel_rfl) (by kernel_rfl) (fun _ _ _ h => h) (Or.inl ⟨by rfl, ?_⟩) (by assumption) ?_
  rotate_left
  · (intro w hSw; (try dsimp only at hSw); go_simp; all_goals with_reducible rfl)
  try simp only [Act.put, List.setIfInBounds_toArray, List.set_cons_zero, List.set_cons_succ]
  have x0 := bP0.cell0
  have x1 := bP0.cell1
  have y0 := bP0.free 0
  have y1 := bP0.free 1
  refine wpAnyH_ready (rs := [4]) (by kernel_rfl) (by simp) ?_
  refine AllReadyH.cons rfl (fun K hK => ?_) AllReadyH.nil
  go_simp
  obtain ⟨Wx, hWx⟩ : ∃ W, W = (Wd.setCell ⟨w.heap.size + 1 + 1, 0, none⟩ (Value.bool n3)).setCell ⟨w.heap.size + 1 + 1, 1, none⟩ (Value.slice A3 l3.length c3') := ⟨_, rfl⟩
  rw [← hWx]
  have bP1 : Box2 Wx (w.heap.size + 1 + 1) (.bool n3) (.slice A3 l3.length c3') := by rw [hWx]; exact (bP0.set0 _).set1 _
  have bQ1 : Box2 Wx (w.heap.size + 1 + 1 + 1) (.bool n4) (.slice A4 l4.length c4) := by rw [hWx]; exact box2_far bQ0 (by omega) _ _
  have bR1 : Box2 Wx (w.heap.size + 1 + 1 + 1 + 1) (.bool n8) (.slice A8 l8.length c8) := by rw [hWx]; exact box2_far bR0 (by omega) _ _
  have JWx : (IP w1 Wx n3 A3 c3' l3 (zI false l2) ∧ IP w1 Wx n4 A4 c4 l4 (zI false k2) ∧ IP w1 Wx n8 A8 c8 l8 (zI n7 l7 / zI nb k)) ∧ Below w.heap.size w Wx := by rw [hWx]; exact ⟨⟨JWd.1.1.two HLE.out.1 _ _, JWd.1.2.1.two HLE.out.1 _ _, JWd.1.2.2.two HLE.out.1 _ _⟩, b2 JWd.2 (by omega) _ _⟩
  refine hK.out _ _ (s6 bP1 bQ1 bR1) (fun hHeld => ?_)
  clear hK K hWx x0 x1 y0 y1
  try simp only [Act.put, List.setIfInBounds_toArray, List.set_cons_zero, List.set_cons_succ]
  have x0 := bQ1.cell0
  have x1 := bQ1.cell1
  have y0 := bQ1.free 0
  have y1 := bQ1.free 1
  refine wpAnyH_ready (rs := [5]) (by kernel_rfl) (by simp) ?_
  refine AllReadyH.cons rfl (fun K hK => ?_) AllReadyH.nil
  go_simp
  obtain ⟨Wy, hWy⟩ : ∃ W, W = (Wx.setCell ⟨w.heap.size + 1 + 1 + 1, 0, none⟩ (Value.bool n4)).setCell ⟨w.heap.size + 1 + 1 + 1, 1, none⟩ (Value.slice A4 l4.length c4) := ⟨_, rfl⟩
  rw [← hWy]
  have bP2 : Box2 Wy (w.heap.size + 1 + 1) (.bool n3) (.slice A3 l3.length c3') := by rw [hWy]; exact box2_far bP1 (by omega) _ _
  have bQ2 : Box2 Wy (w.heap.size + 1 + 1 + 1) (.bool n4) (.slice A4 l4.length c4) := by rw [hWy]; exact (bQ1.set0 _).set1 _
  have bR2 : Box2 Wy (w.heap.size + 1 + 1 + 1 + 1) (.bool n8) (.slice A8 l8.length c8) := by rw [hWy]; exact box2_far bR1 (by omega) _ _
  have JWy : (IP w1 Wy n3 A3 c3' l3 (zI false l2) ∧ IP w1 Wy n4 A4 c4 l4 (zI false k2) ∧ IP w1 Wy n8 A8 c8 l8 (zI n7 l7 / zI nb k)) ∧ Below w.heap.size w Wy := by rw [hWy]; exact ⟨⟨JWx.1.1.two HLE.out.2.1 _ _, JWx.1.2.1.two HLE.out.2.1 _ _, JWx.1.2.2.two HLE.out.2.1 _ _⟩, b2 JWx.2 (by omega) _ _⟩
  refine hK.out _ _ (s6 bP2 bQ2 bR2) (fun hHeld => ?_)
  clear hK K hWy x0 x1 y0 y1
  try simp only [Act.put, List.setIfInBounds_toArray, List.set_cons_zero, List.set_cons_succ]
  have x0 := bR2.cell0
  have x1 := bR2.cell1
  have y0 := bR2.free 0
  have y1 := bR2.free 1
  refine wpAnyH_ready (rs := [6]) (by kernel_rfl) (by simp) ?_
  refine AllReadyH.cons rfl (fun K hK => ?_) AllReadyH.nil
  go_simp
  obtain ⟨Wz, hWz⟩ : ∃ W, W = (Wy.setCell ⟨w.heap.size + 1 + 1 + 1 + 1, 0, none⟩ (Value.bool n8)).setCell ⟨w.heap.size + 1 + 1 + 1 + 1, 1, none⟩ (Value.slice A8 l8.length c8) := ⟨_, rfl⟩
  rw [← hWz]
  have bP3 : Box2 Wz (w.heap.size + 1 + 1) (.bool n3) (.slice A3 l3.length c3') := by rw [hWz]; exact box2_far bP2 (by omega) _ _
  have bQ3 : Box2 Wz (w.heap.size + 1 + 1 + 1) (.bool n4) (.slice A4 l4.length c4) := by rw [hWz]; exact box2_far bQ2 (by omega) _ _
  have bR3 : Box2 Wz (w.heap.size + 1 + 1 + 1 + 1) (.bool n8) (.slice A8 l8.length c8) := by rw [hWz]; exact (bR2.set0 _).set1 _
  have JWz : (IP w1 Wz n3 A3 c3' l3 (zI false l2) ∧ IP w1 Wz n4 A4 c4 l4 (zI false k2) ∧ IP w1 Wz n8 A8 c8 l8 (zI n7 l7 / zI nb k)) ∧ Below w.heap.size w Wz := by rw [hWz]; exact ⟨⟨JWy.1.1.two HLE.out.2.2 _ _, JWy.1.2.1.two HLE.out.2.2 _ _, JWy.1.2.2.two HLE.out.2.2 _ _⟩, b2 JWy.2 (by omega) _ _⟩
  refine hK.out _ _ (s6 bP3 bQ3 bR3) (fun hHeld => ?_)
  clear hK K hWz x0 x1 y0 y1
  try simp only [Act.put, List.setIfInBounds_toArray, List.set_cons_zero, List.set_cons_succ]
  refine wpAnyH_ready (rs := [7]) (by kernel_rfl) (by simp) ?_
  refine AllReadyH.cons rfl (fun K hK => ?_) AllReadyH.nil
  go_simp
  refine hK.out _ _ (by assumption) (fun hHeld2 => ?_)
  clear hK K hHeld2
  try simp only [Act.put, List.setIfInBounds_toArray, List.set_cons_zero, List.set_cons_succ]
  refine wpAnyH_done (by kernel_rfl) ?_ _
  obtain ⟨h20, h21, h30, h31, h40, h41⟩ := hHeld
  go_wp2_with fail
  refine bodyPost_ret (v := .tuple #[.agg #[.bool n3, .slice A3 l3.length c3'], .agg #[.bool n4, .slice A4 l4.length c4], .agg #[.bool n8, .slice A8 l8.length c8], .int .i64 0]) (by simp [results, Tryz.results15, go_sem, h20, h21, h30, h31, h40, h41]) rfl ?_
  rw [HR.out]
  obtain ⟨⟨j3, j4, j8⟩, hwz⟩ := JWz
  refine ⟨U, HU.out, n3, A3, c3', l3, n4, A4, c4, l4, n8, A8, c8, l8, rfl, ?_, ?_, ?_, hwz⟩
  · have h := j3.mono HSZ.out
    rw [show zI false l2 = ((Nat.gcd (val l) (val k) : Nat) : Int) from by unfold zI; rw [HV2.out]; rfl] at h
    exact h
  · have h := j4.mono HSZ.out
    rw [show zI false k2 = ((U : Nat) : Int) from by unfold zI; rw [HZ2.out]; rfl] at h
    exact h
  · have h := j8.mono HSZ.out
    rw [HZ7.out, HZ6.out, j3.2.2.2, j4.2.2.2, show zI false l2 = ((Nat.gcd (val l) (val k) : Nat) : Int) from by unfold zI; rw [HV2.out]; rfl, show zI false k2 = ((U : Nat) : Int) from by unfold zI; rw [HZ2.out]; rfl] at h
    exact h
end Go.Proofs.YtgljdfblgpdaaaaGreatDoor
