/- The specification by value: Div. -/
import Derived.Test.YtgljdfblgpdaaaaGreatDoorNumSpD
import Derived.Test.YtgljdfblgpdaaaaGreatDoorNumBezI
set_option linter.unusedSimpArgs false
set_option linter.unusedVariables false
namespace Go.Proofs.YtgljdfblgpdaaaaGreatDoor
open Go.RowKit Go.Shelf

theorem IV.st {W : World} {n : Bool} {A : Option Addr} {c : Nat} {l : List Nat} {z : Int} (h : IV W n A c l z) {p : Nat} {u : Bool} {B : Option Addr} {k d : Nat} (hb : Box2 W p (.bool u) (.slice B k d)) (x y : Value) :
    IV ((W.setCell ⟨p, 0, none⟩ x).setCell ⟨p, 1, none⟩ y) n A c l z := ⟨h.cap, h.ws.two (ws_off_box hb (by simp) h.ws) _ _, h.can, h.val, h.len⟩
theorem tdiv_nonneg {x y : Int} (hy : y ≠ 0) (h : 0 ≤ x.tmod y) : x.tdiv y = x / y ∧ x.tmod y = x % y := by
  have e := Int.mul_tdiv_add_tmod x y
  have hl : (x.tmod y).natAbs < y.natAbs := by
    rw [Int.natAbs_tmod]
    exact Nat.mod_lt _ (by omega)
  have e2 := Int.mul_ediv_add_emod x y
  have h1 := Int.emod_nonneg x hy
  have h2 := Int.emod_lt x hy
  have hd : y * (x.tdiv y - x / y) = x % y - x.tmod y := by rw [Int.mul_sub]; omega
  have hz : x.tdiv y - x / y = 0 := by
    rcases Int.lt_trichotomy (x.tdiv y - x / y) 0 with h3 | h3 | h3
    · exfalso
      have h4 : y.natAbs * 1 ≤ y.natAbs * (x.tdiv y - x / y).natAbs := Nat.mul_le_mul_left _ (by omega)
      rw [← Int.natAbs_mul, hd] at h4
      omega
    · exact h3
    · exfalso
      have h4 : y.natAbs * 1 ≤ y.natAbs * (x.tdiv y - x / y).natAbs := Nat.mul_le_mul_left _ (by omega)
      rw [← Int.natAbs_mul, hd] at h4
      omega
  rw [hz, Int.mul_zero] at hd
  exact ⟨by omega, by omega⟩
theorem tmod_neg {x y : Int} (hy : y ≠ 0) (h : x.tmod y < 0) : x.tmod y + (y.natAbs : Int) = x % y ∧ (x - x % y).tdiv y = x / y := by
  have hl : (x.tmod y).natAbs < y.natAbs := by
    rw [Int.natAbs_tmod]
    exact Nat.mod_lt _ (by omega)
  have e := Int.mul_tdiv_add_tmod x y
  have e2 := Int.mul_ediv_add_emod x y
  have h1 := Int.emod_nonneg x hy
  have h2 := Int.emod_lt x hy
  constructor
  · have hd : y * (x.tdiv y - x / y) = x % y - x.tmod y := by rw [Int.mul_sub]; omega
    have h3 : (x.tdiv y - x / y).natAbs = 1 := by
      have h4 := congrArg Int.natAbs hd
      rw [Int.natAbs_mul] at h4
      rcases Nat.lt_trichotomy (x.tdiv y - x / y).natAbs 1 with h5 | h5 | h5
      · have h6 : (x.tdiv y - x / y).natAbs = 0 := by omega
        rw [h6, Nat.mul_zero] at h4
        omega
      · exact h5
      · exfalso
        have h6 : y.natAbs * 2 ≤ y.natAbs * (x.tdiv y - x / y).natAbs := Nat.mul_le_mul_left _ h5
        omega
    have h4 := congrArg Int.natAbs hd
    rw [Int.natAbs_mul, h3, Nat.mul_one] at h4
    omega
  · have e3 : x - x % y = y * (x / y) := by omega
    rw [e3]
    exact Int.mul_tdiv_cancel_left _ hy
theorem abs_div_le {x y : Int} (h : x.natAbs < 4611686018427387904) : (x / y).natAbs < 4611686018427387904 := Nat.lt_of_le_of_lt (Int.natAbs_ediv_le_natAbs x y) h

set_option maxRecDepth 100000 in
set_option maxHeartbeats 4000000 in
theorem RDiv_pos {w : World} {na nb : Bool} {A B : Option Addr} {ca cb : Nat} {la lb : List Nat} {x y : Int} (ia : IV w na A ca la x) (ib : IV w nb B cb lb y) (hy : y ≠ 0) (hxa : x.natAbs < 4611686018427387904) (hxb : y.natAbs < 4611686018427387904) (ht : 0 ≤ x.tmod y) :
    Calls Tryz.prog 14 #[.agg #[.bool na, .slice A la.length ca], .agg #[.bool nb, .slice B lb.length cb]] w (RDIV w (x / y) (x % y)) := by
  have ea := ia.len
  have eb := ib.len
  have HXA := Lib.hid hxa
  have HXB := Lib.hid hxb
  have HVA : Hid (val la = x.natAbs) := Lib.hid (by rw [← ia.val]; unfold zI; split <;> simp)
  have HVB : Hid (val lb = y.natAbs) := Lib.hid (by rw [← ib.val]; unfold zI; split <;> simp)
  have hlb0 : lb.length ≠ 0 := fun h => hy ((by have h1 := ib.val; rw [List.eq_nil_of_length_eq_zero h, zI_nil] at h1; exact h1.symm))
  have hlz : ((lb.length : Int) == 0) = false := beq_eq_false_iff_ne.2 (by omega)
  have HLX := Lib.hid (lt_ediv (y := y) (lt_le (lt_val ia.ws ia.val) ia.len))
  have HLR := Lib.hid (lt_emod (x := x) hy (lt_le (lt_val ib.ws ib.val) ib.len))
  have HYZ : Hid ((y == 0) = false ∧ ¬ y = 0) := Lib.hid ⟨beq_eq_false_iff_ne.2 hy, hy⟩
  have hqb := abs_div_le (y := y) hxa
  have hrb : (x % y).natAbs < 4611686018427387904 := by
    have h1 := Int.emod_nonneg x hy
    have h2 := Int.emod_lt x hy
    omega
  obtain ⟨e1, e2⟩ := tdiv_nonneg hy ht
  obtain ⟨q, hq⟩ : ∃ q, q = x / y := ⟨_, rfl⟩
  obtain ⟨r, hr⟩ : ∃ r, r = x % y := ⟨_, rfl⟩
  have hr0 : ¬ r < 0 := by rw [hr, ← e2]; omega
  have HQUO : Hid (x.tdiv y = q) := Lib.hid (by rw [e1, hq])
  have HREM : Hid (x.tmod y = r) := Lib.hid (by rw [e2, hr])
  rw [← hq] at hqb
  rw [← hr] at hrb
  rw [← hq, ← hr]
  have HOQ := Lib.hid (fun w => ROf_iv w q (by omega) (by omega))
  have HOR := Lib.hid (fun w => ROf_iv w r (by omega) (by omega))
  have HWQ : Hid (wrap64 q = q ∧ wrap64 r = r) := Lib.hid ⟨by unfold wrap64; omega, by unfold wrap64; omega⟩
  clear e1 e2 hq hr hqb hrb ht
  clear hxa hxb hy
  go_enter Tryz.func14, Tryz.ntmps14
  go_wp2_with fail
  refine (RIs_iv (ia.below (ba (ba (ba (ba (b0 _) _) _) _) _))).mono ?_
  rintro e w0 ⟨rfl, hb0⟩
  have hba0 : Box2 w0 w.heap.size (.bool na) (.slice A la.length ca) := ((((Box2.new w (.bool na) (.slice A la.length ca)).alloc _).alloc _).alloc _).below hb0
  have hbb0 : Box2 w0 (w.heap.size + 1) (.bool nb) (.slice B lb.length cb) := by
    have := (((Box2.new (w.alloc (.cells #[.bool na, .slice A la.length ca] 24)) (.bool nb) (.slice B lb.length cb)).alloc _).alloc _).below hb0
    simpa using this
  have hbq0 : Box2 w0 (w.heap.size + 1 + 1) (.bool false) (.slice none 0 0) := by
    have := ((Box2.new ((w.alloc (.cells #[.bool na, .slice A la.length ca] 24)).alloc (.cells #[.bool nb, .slice B lb.length cb] 24)) (.bool false) (.slice none 0 0)).alloc _).below hb0
    simpa using this
  have hbr0 : Box2 w0 (w.heap.size + 1 + 1 + 1) (.bool false) (.slice none 0 0) := by
    have := (Box2.new (((w.alloc (.cells #[.bool na, .slice A la.length ca] 24)).alloc (.cells #[.bool nb, .slice B lb.length cb] 24)).alloc (.cells #[.bool false, .slice none 0 0] 24)) (.bool false) (.slice none 0 0)).below hb0
    simpa using this
  have hK0 := bt (ba (ba (ba (ba (b0 w) _) _) _) _) hb0
  have y2 := hbb0.cell0
  have y3 := hbb0.cell1
  go_wp2_with fail
  refine (RIs_iv (ib.below hK0)).mono ?_
  rintro e w1 ⟨rfl, hb1⟩
  have hba := hba0.below hb1
  have hbb := hbb0.below hb1
  have hbq := hbq0.below hb1
  have hbr := hbr0.below hb1
  have hK := bt hK0 hb1
  clear hba0 hbb0 hbq0 hbr0 hK0 hb0 hb1 y2 y3
  have y0 := hba.cell0
  have y1 := hba.cell1
  have y2 := hbb.cell0
  have y3 := hbb.cell1
  have hwA := ia.ws.below hK
  have hwB := ib.ws.below hK
  go_wp2_with fail
  refine (Rnative_yes (ia.below hK) HXA.out).mono ?_
  rintro e w2 ⟨rfl, hb2⟩
  replace hba := hba.below hb2
  replace hbb := hbb.below hb2
  replace hbq := hbq.below hb2
  replace hbr := hbr.below hb2
  replace hK := bt hK hb2
  clear y0 y1 y2 y3 hwA hwB
  obtain ⟨w1, hw1⟩ : ∃ v, v = w2 := ⟨_, rfl⟩
  try rw [← hw1] at hb2
  rw [← hw1] at hba hbb hbq hbr hK ⊢
  clear hw1
  have y0 := hba.cell0
  have y1 := hba.cell1
  have y2 := hbb.cell0
  have y3 := hbb.cell1
  have hwA := ia.ws.below hK
  have hwB := ib.ws.below hK
  clear hb2
  go_wp2_with fail
  refine (Rnative_yes (ib.below hK) HXB.out).mono ?_
  rintro e w2 ⟨rfl, hb2⟩
  replace hba := hba.below hb2
  replace hbb := hbb.below hb2
  replace hbq := hbq.below hb2
  replace hbr := hbr.below hb2
  replace hK := bt hK hb2
  clear y0 y1 y2 y3 hwA hwB
  obtain ⟨w1, hw1⟩ : ∃ v, v = w2 := ⟨_, rfl⟩
  try rw [← hw1] at hb2
  rw [← hw1] at hba hbb hbq hbr hK ⊢
  clear hw1
  have y0 := hba.cell0
  have y1 := hba.cell1
  have y2 := hbb.cell0
  have y3 := hbb.cell1
  have hwA := ia.ws.below hK
  have hwB := ib.ws.below hK
  clear hb2
  have hquo := HQUO.out
  have hrem := HREM.out
  have hyz := HYZ.out.1
  have hyz2 := HYZ.out.2
  go_wp2_with fail
  go_quiet (fail)
  rw [HWQ.out.1]
  go_wp2_with fail
  clear hquo hrem hyz hyz2
  refine (HOQ.out _).mono ?_
  rintro e w3 ⟨n1, A1, c1, l1, rfl, i1, hb3⟩
  have hb3 := bt (bd (b0 w1) _) hb3
  go_wp2_with fail
  refine (HOR.out _).mono ?_
  rintro e w4 ⟨n2, A2, c2, l2, rfl, i2, hb4⟩
  have hbq5 := (hbq.below hb3).below hb4
  have hbr5 := (hbr.below hb3).below hb4
  have HK5 := Lib.hid (bt (bt hK hb3) hb4)
  have HI1 := Lib.hid (i1.below hb4)
  have HI2 := Lib.hid i2
  have p0 := hbq5.cell0
  have p1 := hbq5.cell1
  have pf0 := hbq5.free 0
  have pf1 := hbq5.free 1
  have p2 := hbr5.cell0
  have p3 := hbr5.cell1
  have pf2 := hbr5.free 0
  have pf3 := hbr5.free 1
  obtain ⟨k0, k1, k2⟩ := hbq5.back (.bool n1) (.slice A1 l1.length c1)
  have sr2 := box2_far hbr5 (q := w.heap.size + 1 + 1) (by omega) (.bool n1) (.slice A1 l1.length c1)
  have p4 := sr2.cell0
  have p5 := sr2.cell1
  have pf4 := sr2.free 0
  have pf5 := sr2.free 1
  obtain ⟨m0, m1, m2⟩ := sr2.back (.bool n2) (.slice A2 l2.length c2)
  go_wp2_with fail
  refine bodyPost_ret (v := .tuple #[.agg #[.bool n1, .slice A1 l1.length c1], .agg #[.bool n2, .slice A2 l2.length c2], .int .i64 0]) (by simp [results, Tryz.results14, go_sem, k0, k2, m0, m2]) rfl ?_
  exact ⟨n1, A1, c1, l1, n2, A2, c2, l2, rfl, (HI1.out.st hbq5 _ _).st sr2 _ _, (HI2.out.st hbq5 _ _).st sr2 _ _, b2 (b2 HK5.out (by omega) _ _) (by omega) _ _⟩

set_option maxRecDepth 100000 in
set_option maxHeartbeats 4000000 in
theorem RDiv_negp {w : World} {na nb : Bool} {A B : Option Addr} {ca cb : Nat} {la lb : List Nat} {x y : Int} (ia : IV w na A ca la x) (ib : IV w nb B cb lb y) (hy : y ≠ 0) (hxa : x.natAbs < 4611686018427387904) (hxb : y.natAbs < 4611686018427387904) (ht : x.tmod y < 0) (hp : 0 < y) :
    Calls Tryz.prog 14 #[.agg #[.bool na, .slice A la.length ca], .agg #[.bool nb, .slice B lb.length cb]] w (RDIV w (x / y) (x % y)) := by
  have ea := ia.len
  have eb := ib.len
  have HXA := Lib.hid hxa
  have HXB := Lib.hid hxb
  have HVA : Hid (val la = x.natAbs) := Lib.hid (by rw [← ia.val]; unfold zI; split <;> simp)
  have HVB : Hid (val lb = y.natAbs) := Lib.hid (by rw [← ib.val]; unfold zI; split <;> simp)
  have hlb0 : lb.length ≠ 0 := fun h => hy ((by have h1 := ib.val; rw [List.eq_nil_of_length_eq_zero h, zI_nil] at h1; exact h1.symm))
  have hlz : ((lb.length : Int) == 0) = false := beq_eq_false_iff_ne.2 (by omega)
  have HLX := Lib.hid (lt_ediv (y := y) (lt_le (lt_val ia.ws ia.val) ia.len))
  have HLR := Lib.hid (lt_emod (x := x) hy (lt_le (lt_val ib.ws ib.val) ib.len))
  have HYZ : Hid ((y == 0) = false ∧ ¬ y = 0) := Lib.hid ⟨beq_eq_false_iff_ne.2 hy, hy⟩
  have hqb := abs_div_le (y := y) hxa
  have hrb : (x % y).natAbs < 4611686018427387904 := by
    have h1 := Int.emod_nonneg x hy
    have h2 := Int.emod_lt x hy
    omega
  obtain ⟨e1, e2⟩ := tmod_neg hy ht
  obtain ⟨q, hq⟩ : ∃ q, q = x / y := ⟨_, rfl⟩
  obtain ⟨r, hr⟩ : ∃ r, r = x % y := ⟨_, rfl⟩
  obtain ⟨t, hte⟩ : ∃ t, t = x.tmod y := ⟨_, rfl⟩
  obtain ⟨s, hse⟩ : ∃ s, s = x.tdiv y := ⟨_, rfl⟩
  rw [← hr, ← hq] at e2
  rw [← hte, ← hr] at e1
  rw [← hte] at ht
  have HQUO : Hid (x.tdiv y = s) := Lib.hid hse.symm
  have HREM : Hid (x.tmod y = t) := Lib.hid hte.symm
  rw [← hq] at hqb
  rw [← hr] at hrb
  rw [← hq, ← hr]
  have HOQ := Lib.hid (fun w => ROf_iv w q (by omega) (by omega))
  have HOR := Lib.hid (fun w => ROf_iv w r (by omega) (by omega))
  have hxr : (x - r).natAbs < 9223372036854775807 := by omega
  obtain ⟨a, hae⟩ : ∃ a : Int, a = (y.natAbs : Int) := ⟨_, rfl⟩
  obtain ⟨xr, hxre⟩ : ∃ xr, xr = x - r := ⟨_, rfl⟩
  have H1 : Hid (wrap64 (-y) = -y) := Lib.hid (by unfold wrap64; omega)
  have H2 : Hid (wrap64 (t + y) = r) := Lib.hid (by unfold wrap64; omega)
  have H3 : Hid (wrap64 (x - r) = xr) := Lib.hid (by unfold wrap64; omega)
  have H4 : Hid (xr.tdiv y = q) := Lib.hid (by rw [hxre]; exact e2)
  have H5 : Hid (wrap64 q = q) := Lib.hid (by unfold wrap64; omega)
  have HMX : Hid (max y (-y) = y) := Lib.hid (by omega)
  clear e1 e2 hq hr hte hse hqb hrb hxr hae hxre
  clear hxa hxb hy
  go_enter Tryz.func14, Tryz.ntmps14
  go_wp2_with fail
  refine (RIs_iv (ia.below (ba (ba (ba (ba (b0 _) _) _) _) _))).mono ?_
  rintro e w0 ⟨rfl, hb0⟩
  have hba0 : Box2 w0 w.heap.size (.bool na) (.slice A la.length ca) := ((((Box2.new w (.bool na) (.slice A la.length ca)).alloc _).alloc _).alloc _).below hb0
  have hbb0 : Box2 w0 (w.heap.size + 1) (.bool nb) (.slice B lb.length cb) := by
    have := (((Box2.new (w.alloc (.cells #[.bool na, .slice A la.length ca] 24)) (.bool nb) (.slice B lb.length cb)).alloc _).alloc _).below hb0
    simpa using this
  have hbq0 : Box2 w0 (w.heap.size + 1 + 1) (.bool false) (.slice none 0 0) := by
    have := ((Box2.new ((w.alloc (.cells #[.bool na, .slice A la.length ca] 24)).alloc (.cells #[.bool nb, .slice B lb.length cb] 24)) (.bool false) (.slice none 0 0)).alloc _).below hb0
    simpa using this
  have hbr0 : Box2 w0 (w.heap.size + 1 + 1 + 1) (.bool false) (.slice none 0 0) := by
    have := (Box2.new (((w.alloc (.cells #[.bool na, .slice A la.length ca] 24)).alloc (.cells #[.bool nb, .slice B lb.length cb] 24)).alloc (.cells #[.bool false, .slice none 0 0] 24)) (.bool false) (.slice none 0 0)).below hb0
    simpa using this
  have hK0 := bt (ba (ba (ba (ba (b0 w) _) _) _) _) hb0
  have y2 := hbb0.cell0
  have y3 := hbb0.cell1
  go_wp2_with fail
  refine (RIs_iv (ib.below hK0)).mono ?_
  rintro e w1 ⟨rfl, hb1⟩
  have hba := hba0.below hb1
  have hbb := hbb0.below hb1
  have hbq := hbq0.below hb1
  have hbr := hbr0.below hb1
  have hK := bt hK0 hb1
  clear hba0 hbb0 hbq0 hbr0 hK0 hb0 hb1 y2 y3
  have y0 := hba.cell0
  have y1 := hba.cell1
  have y2 := hbb.cell0
  have y3 := hbb.cell1
  have hwA := ia.ws.below hK
  have hwB := ib.ws.below hK
  go_wp2_with fail
  refine (Rnative_yes (ia.below hK) HXA.out).mono ?_
  rintro e w2 ⟨rfl, hb2⟩
  replace hba := hba.below hb2
  replace hbb := hbb.below hb2
  replace hbq := hbq.below hb2
  replace hbr := hbr.below hb2
  replace hK := bt hK hb2
  clear y0 y1 y2 y3 hwA hwB
  obtain ⟨w1, hw1⟩ : ∃ v, v = w2 := ⟨_, rfl⟩
  try rw [← hw1] at hb2
  rw [← hw1] at hba hbb hbq hbr hK ⊢
  clear hw1
  have y0 := hba.cell0
  have y1 := hba.cell1
  have y2 := hbb.cell0
  have y3 := hbb.cell1
  have hwA := ia.ws.below hK
  have hwB := ib.ws.below hK
  clear hb2
  go_wp2_with fail
  refine (Rnative_yes (ib.below hK) HXB.out).mono ?_
  rintro e w2 ⟨rfl, hb2⟩
  replace hba := hba.below hb2
  replace hbb := hbb.below hb2
  replace hbq := hbq.below hb2
  replace hbr := hbr.below hb2
  replace hK := bt hK hb2
  clear y0 y1 y2 y3 hwA hwB
  obtain ⟨w1, hw1⟩ : ∃ v, v = w2 := ⟨_, rfl⟩
  try rw [← hw1] at hb2
  rw [← hw1] at hba hbb hbq hbr hK ⊢
  clear hw1
  have y0 := hba.cell0
  have y1 := hba.cell1
  have y2 := hbb.cell0
  have y3 := hbb.cell1
  have hwA := ia.ws.below hK
  have hwB := ib.ws.below hK
  clear hb2
  have hquo := HQUO.out
  have hrem := HREM.out
  have hyz := HYZ.out.1
  have hyz2 := HYZ.out.2
  go_wp2_with fail
  go_quiet (fail)
  clear hquo hrem
  have h1 := H1.out
  go_wp2_with fail
  clear h1
  rw [HMX.out, H2.out, H3.out, H4.out, H5.out]
  refine (HOQ.out _).mono ?_
  rintro e w3 ⟨n1, A1, c1, l1, rfl, i1, hb3⟩
  have hb3 := bt (bd (b0 w1) _) hb3
  go_wp2_with fail
  refine (HOR.out _).mono ?_
  rintro e w4 ⟨n2, A2, c2, l2, rfl, i2, hb4⟩
  have hbq5 := (hbq.below hb3).below hb4
  have hbr5 := (hbr.below hb3).below hb4
  have HK5 := Lib.hid (bt (bt hK hb3) hb4)
  have HI1 := Lib.hid (i1.below hb4)
  have HI2 := Lib.hid i2
  have p0 := hbq5.cell0
  have p1 := hbq5.cell1
  have pf0 := hbq5.free 0
  have pf1 := hbq5.free 1
  have p2 := hbr5.cell0
  have p3 := hbr5.cell1
  have pf2 := hbr5.free 0
  have pf3 := hbr5.free 1
  obtain ⟨k0, k1, k2⟩ := hbq5.back (.bool n1) (.slice A1 l1.length c1)
  have sr2 := box2_far hbr5 (q := w.heap.size + 1 + 1) (by omega) (.bool n1) (.slice A1 l1.length c1)
  have p4 := sr2.cell0
  have p5 := sr2.cell1
  have pf4 := sr2.free 0
  have pf5 := sr2.free 1
  obtain ⟨m0, m1, m2⟩ := sr2.back (.bool n2) (.slice A2 l2.length c2)
  go_wp2_with fail
  refine bodyPost_ret (v := .tuple #[.agg #[.bool n1, .slice A1 l1.length c1], .agg #[.bool n2, .slice A2 l2.length c2], .int .i64 0]) (by simp [results, Tryz.results14, go_sem, k0, k2, m0, m2]) rfl ?_
  exact ⟨n1, A1, c1, l1, n2, A2, c2, l2, rfl, (HI1.out.st hbq5 _ _).st sr2 _ _, (HI2.out.st hbq5 _ _).st sr2 _ _, b2 (b2 HK5.out (by omega) _ _) (by omega) _ _⟩

set_option maxRecDepth 100000 in
set_option maxHeartbeats 4000000 in
theorem RDiv_negn {w : World} {na nb : Bool} {A B : Option Addr} {ca cb : Nat} {la lb : List Nat} {x y : Int} (ia : IV w na A ca la x) (ib : IV w nb B cb lb y) (hy : y ≠ 0) (hxa : x.natAbs < 4611686018427387904) (hxb : y.natAbs < 4611686018427387904) (ht : x.tmod y < 0) (hp : y < 0) :
    Calls Tryz.prog 14 #[.agg #[.bool na, .slice A la.length ca], .agg #[.bool nb, .slice B lb.length cb]] w (RDIV w (x / y) (x % y)) := by
  have ea := ia.len
  have eb := ib.len
  have HXA := Lib.hid hxa
  have HXB := Lib.hid hxb
  have HVA : Hid (val la = x.natAbs) := Lib.hid (by rw [← ia.val]; unfold zI; split <;> simp)
  have HVB : Hid (val lb = y.natAbs) := Lib.hid (by rw [← ib.val]; unfold zI; split <;> simp)
  have hlb0 : lb.length ≠ 0 := fun h => hy ((by have h1 := ib.val; rw [List.eq_nil_of_length_eq_zero h, zI_nil] at h1; exact h1.symm))
  have hlz : ((lb.length : Int) == 0) = false := beq_eq_false_iff_ne.2 (by omega)
  have HLX := Lib.hid (lt_ediv (y := y) (lt_le (lt_val ia.ws ia.val) ia.len))
  have HLR := Lib.hid (lt_emod (x := x) hy (lt_le (lt_val ib.ws ib.val) ib.len))
  have HYZ : Hid ((y == 0) = false ∧ ¬ y = 0) := Lib.hid ⟨beq_eq_false_iff_ne.2 hy, hy⟩
  have hqb := abs_div_le (y := y) hxa
  have hrb : (x % y).natAbs < 4611686018427387904 := by
    have h1 := Int.emod_nonneg x hy
    have h2 := Int.emod_lt x hy
    omega
  obtain ⟨e1, e2⟩ := tmod_neg hy ht
  obtain ⟨q, hq⟩ : ∃ q, q = x / y := ⟨_, rfl⟩
  obtain ⟨r, hr⟩ : ∃ r, r = x % y := ⟨_, rfl⟩
  obtain ⟨t, hte⟩ : ∃ t, t = x.tmod y := ⟨_, rfl⟩
  obtain ⟨s, hse⟩ : ∃ s, s = x.tdiv y := ⟨_, rfl⟩
  rw [← hr, ← hq] at e2
  rw [← hte, ← hr] at e1
  rw [← hte] at ht
  have HQUO : Hid (x.tdiv y = s) := Lib.hid hse.symm
  have HREM : Hid (x.tmod y = t) := Lib.hid hte.symm
  rw [← hq] at hqb
  rw [← hr] at hrb
  rw [← hq, ← hr]
  have HOQ := Lib.hid (fun w => ROf_iv w q (by omega) (by omega))
  have HOR := Lib.hid (fun w => ROf_iv w r (by omega) (by omega))
  have hxr : (x - r).natAbs < 9223372036854775807 := by omega
  obtain ⟨a, hae⟩ : ∃ a : Int, a = (y.natAbs : Int) := ⟨_, rfl⟩
  obtain ⟨xr, hxre⟩ : ∃ xr, xr = x - r := ⟨_, rfl⟩
  have H1 : Hid (wrap64 (-y) = -y) := Lib.hid (by unfold wrap64; omega)
  have H2 : Hid (wrap64 (t + -y) = r) := Lib.hid (by unfold wrap64; omega)
  have H3 : Hid (wrap64 (x - r) = xr) := Lib.hid (by unfold wrap64; omega)
  have H4 : Hid (xr.tdiv y = q) := Lib.hid (by rw [hxre]; exact e2)
  have H5 : Hid (wrap64 q = q) := Lib.hid (by unfold wrap64; omega)
  have HMX : Hid (max y (-y) = -y) := Lib.hid (by omega)
  clear e1 e2 hq hr hte hse hqb hrb hxr hae hxre
  clear hxa hxb hy
  go_enter Tryz.func14, Tryz.ntmps14
  go_wp2_with fail
  refine (RIs_iv (ia.below (ba (ba (ba (ba (b0 _) _) _) _) _))).mono ?_
  rintro e w0 ⟨rfl, hb0⟩
  have hba0 : Box2 w0 w.heap.size (.bool na) (.slice A la.length ca) := ((((Box2.new w (.bool na) (.slice A la.length ca)).alloc _).alloc _).alloc _).below hb0
  have hbb0 : Box2 w0 (w.heap.size + 1) (.bool nb) (.slice B lb.length cb) := by
    have := (((Box2.new (w.alloc (.cells #[.bool na, .slice A la.length ca] 24)) (.bool nb) (.slice B lb.length cb)).alloc _).alloc _).below hb0
    simpa using this
  have hbq0 : Box2 w0 (w.heap.size + 1 + 1) (.bool false) (.slice none 0 0) := by
    have := ((Box2.new ((w.alloc (.cells #[.bool na, .slice A la.length ca] 24)).alloc (.cells #[.bool nb, .slice B lb.length cb] 24)) (.bool false) (.slice none 0 0)).alloc _).below hb0
    simpa using this
  have hbr0 : Box2 w0 (w.heap.size + 1 + 1 + 1) (.bool false) (.slice none 0 0) := by
    have := (Box2.new (((w.alloc (.cells #[.bool na, .slice A la.length ca] 24)).alloc (.cells #[.bool nb, .slice B lb.length cb] 24)).alloc (.cells #[.bool false, .slice none 0 0] 24)) (.bool false) (.slice none 0 0)).below hb0
    simpa using this
  have hK0 := bt (ba (ba (ba (ba (b0 w) _) _) _) _) hb0
  have y2 := hbb0.cell0
  have y3 := hbb0.cell1
  go_wp2_with fail
  refine (RIs_iv (ib.below hK0)).mono ?_
  rintro e w1 ⟨rfl, hb1⟩
  have hba := hba0.below hb1
  have hbb := hbb0.below hb1
  have hbq := hbq0.below hb1
  have hbr := hbr0.below hb1
  have hK := bt hK0 hb1
  clear hba0 hbb0 hbq0 hbr0 hK0 hb0 hb1 y2 y3
  have y0 := hba.cell0
  have y1 := hba.cell1
  have y2 := hbb.cell0
  have y3 := hbb.cell1
  have hwA := ia.ws.below hK
  have hwB := ib.ws.below hK
  go_wp2_with fail
  refine (Rnative_yes (ia.below hK) HXA.out).mono ?_
  rintro e w2 ⟨rfl, hb2⟩
  replace hba := hba.below hb2
  replace hbb := hbb.below hb2
  replace hbq := hbq.below hb2
  replace hbr := hbr.below hb2
  replace hK := bt hK hb2
  clear y0 y1 y2 y3 hwA hwB
  obtain ⟨w1, hw1⟩ : ∃ v, v = w2 := ⟨_, rfl⟩
  try rw [← hw1] at hb2
  rw [← hw1] at hba hbb hbq hbr hK ⊢
  clear hw1
  have y0 := hba.cell0
  have y1 := hba.cell1
  have y2 := hbb.cell0
  have y3 := hbb.cell1
  have hwA := ia.ws.below hK
  have hwB := ib.ws.below hK
  clear hb2
  go_wp2_with fail
  refine (Rnative_yes (ib.below hK) HXB.out).mono ?_
  rintro e w2 ⟨rfl, hb2⟩
  replace hba := hba.below hb2
  replace hbb := hbb.below hb2
  replace hbq := hbq.below hb2
  replace hbr := hbr.below hb2
  replace hK := bt hK hb2
  clear y0 y1 y2 y3 hwA hwB
  obtain ⟨w1, hw1⟩ : ∃ v, v = w2 := ⟨_, rfl⟩
  try rw [← hw1] at hb2
  rw [← hw1] at hba hbb hbq hbr hK ⊢
  clear hw1
  have y0 := hba.cell0
  have y1 := hba.cell1
  have y2 := hbb.cell0
  have y3 := hbb.cell1
  have hwA := ia.ws.below hK
  have hwB := ib.ws.below hK
  clear hb2
  have hquo := HQUO.out
  have hrem := HREM.out
  have hyz := HYZ.out.1
  have hyz2 := HYZ.out.2
  go_wp2_with fail
  go_quiet (fail)
  clear hquo hrem
  have h1 := H1.out
  go_wp2_with fail
  clear h1
  rw [HMX.out, H2.out, H3.out, H4.out, H5.out]
  refine (HOQ.out _).mono ?_
  rintro e w3 ⟨n1, A1, c1, l1, rfl, i1, hb3⟩
  have hb3 := bt (bd (b0 w1) _) hb3
  go_wp2_with fail
  refine (HOR.out _).mono ?_
  rintro e w4 ⟨n2, A2, c2, l2, rfl, i2, hb4⟩
  have hbq5 := (hbq.below hb3).below hb4
  have hbr5 := (hbr.below hb3).below hb4
  have HK5 := Lib.hid (bt (bt hK hb3) hb4)
  have HI1 := Lib.hid (i1.below hb4)
  have HI2 := Lib.hid i2
  have p0 := hbq5.cell0
  have p1 := hbq5.cell1
  have pf0 := hbq5.free 0
  have pf1 := hbq5.free 1
  have p2 := hbr5.cell0
  have p3 := hbr5.cell1
  have pf2 := hbr5.free 0
  have pf3 := hbr5.free 1
  obtain ⟨k0, k1, k2⟩ := hbq5.back (.bool n1) (.slice A1 l1.length c1)
  have sr2 := box2_far hbr5 (q := w.heap.size + 1 + 1) (by omega) (.bool n1) (.slice A1 l1.length c1)
  have p4 := sr2.cell0
  have p5 := sr2.cell1
  have pf4 := sr2.free 0
  have pf5 := sr2.free 1
  obtain ⟨m0, m1, m2⟩ := sr2.back (.bool n2) (.slice A2 l2.length c2)
  go_wp2_with fail
  refine bodyPost_ret (v := .tuple #[.agg #[.bool n1, .slice A1 l1.length c1], .agg #[.bool n2, .slice A2 l2.length c2], .int .i64 0]) (by simp [results, Tryz.results14, go_sem, k0, k2, m0, m2]) rfl ?_
  exact ⟨n1, A1, c1, l1, n2, A2, c2, l2, rfl, (HI1.out.st hbq5 _ _).st sr2 _ _, (HI2.out.st hbq5 _ _).st sr2 _ _, b2 (b2 HK5.out (by omega) _ _) (by omega) _ _⟩
end Go.Proofs.YtgljdfblgpdaaaaGreatDoor
