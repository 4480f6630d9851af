import Derived.Test.YtgljdfblgpdaaaaGreatDoorPbNumBezI
import Derived.Test.YtgljdfblgpdaaaaGreatDoorPbNumSpA
set_option linter.unusedSimpArgs false
set_option linter.unusedVariables false
set_option maxRecDepth 100000
set_option maxHeartbeats 4000000
namespace Go.Proofs.YtgljdfblgpdaaaaGreatDoor
open Go.RowKit Go.Shelf
theorem RdivWords_lt (A B : Option Addr) (c d : Nat) (la lb : List Nat) (w : World) (hm : la.length ≤ 500000) (hml : lb.length ≤ 500000) (hca : la.length ≤ c) (tl : Top la) (tk : Top lb) (hlt : val la < val lb) (hA : WS w A la) (hB : WS w B lb) :
  Calls Tryz.prog 91 #[.slice A la.length c, .slice B lb.length d] w (WsP2 w (val la / val lb) (val la % val lb)) := by
 obtain ⟨cv, hcv⟩ : ∃ cv, cv = cmpN (val la) (val lb) := ⟨_, rfl⟩
 have hcv0 : cv < 0 := by rw [hcv]; unfold cmpN; rw [if_pos hlt]; omega
 have HCV := Hi hcv
 have HTL := Hi tl
 have HTK := Hi tk
 have HLT := Hi hlt
 clear hcv tl tk hlt
 go_enter Tryz.func91, Tryz.ntmps91
 go_wp2_with fail
 refine (RcmpWords_any A B la.length c lb.length d la lb _ rfl rfl (by omega) (by omega) HTL.out HTK.out hA hB).mono ?_
 rintro e w1 ⟨rfl, hb1⟩
 rw [← HCV.out]
 go_wp2_with fail
 go_ret2
 exact ⟨none, 0, [], A, c, la, rfl, Nat.le_refl _, hca, WS.nil_ _ _, hA.below hb1, top_nil, HTL.out, (Nat.div_eq_of_lt HLT.out).symm, (Nat.mod_eq_of_lt HLT.out).symm, hb1⟩
theorem RdivWords_one (A B : Option Addr) (c d : Nat) (la : List Nat) (y : Nat) (w : World) (hm : la.length ≤ 500000) (tl : Top la) (hy : 0 < y) (hy2 : y < 4294967296) (hle : y ≤ val la) (hA : WS w A la) (hB : WS w B [y]) :
  Calls Tryz.prog 91 #[.slice A la.length c, .slice B 1 d] w (WsP2 w (val la / y) (val la % y)) := by
 have hvy : val [y] = y := by simp [val]
 obtain ⟨cv, hcv⟩ : ∃ cv, cv = cmpN (val la) (val [y]) := ⟨_, rfl⟩
 have hcv0 : ¬ cv < 0 := by rw [hcv, hvy]; unfold cmpN; rw [if_neg (by omega)]; split <;> omega
 have HCV := Hi hcv
 have HTL := Hi tl
 have HTK : Hid (Top [y]) := Hi (fun _ => by simp [gd]; omega)
 have hone : ((1 : Int) == 1) = true := rfl
 clear hcv tl hle hvy
 go_enter Tryz.func91, Tryz.ntmps91
 go_wp2_with fail
 refine (RcmpWords_any A B la.length c 1 d la [y] _ rfl rfl (by omega) (by decide) HTL.out HTK.out hA hB).mono ?_
 rintro e w1 ⟨rfl, hb1⟩
 rw [← HCV.out]
 have hB1 := hB.below hb1
 obtain ⟨b, off, rfl, h8, h9⟩ := hB1.at_ (by simp)
 have hc := ws_cell hB1 (j := 0) (by simp)
 rw [show gd [y] 0 = y from rfl, Nat.add_zero] at hc
 have hA1 := hA.below hb1
 clear h8 h9
 go_wp2_with fail
 refine (RbyWord_any A la.length c la y w1 rfl (by omega) hy hy2 hA1).mono ?_
 rintro e w2 ⟨A1, c1, l1, B2, d2, k2, rfl, h1, h2, h3, h4, h5, h6, h7, h8, h9⟩
 have HFIN : Hid (WsP2 w (val la / y) (val la % y) (.returned (.tuple #[.slice A1 l1.length c1, .slice B2 k2.length d2])) w2) := Hi ⟨A1, c1, l1, B2, d2, k2, rfl, h1, h2, h3, h4, h5, h6, h7, h8, bt hb1 h9⟩
 clear h1 h2 h3 h4 h5 h6 h7 h8 h9
 go_wp2_with fail
 go_ret2
 exact HFIN.out
theorem RdivWords_any (A B : Option Addr) (c d : Nat) (la lb : List Nat) (w : World) (hm : la.length ≤ 500000) (hml : lb.length ≤ 500000) (hca : la.length ≤ c) (tl : Top la) (tk : Top lb) (h0 : 0 < lb.length) (hA : WS w A la) (hB : WS w B lb) :
  Calls Tryz.prog 91 #[.slice A la.length c, .slice B lb.length d] w (WsP2 w (val la / val lb) (val la % val lb)) := by
 rcases Nat.lt_or_ge (val la) (val lb) with h | h
 ·exact RdivWords_lt A B c d la lb w hm hml hca tl tk h hA hB
 ·rcases Nat.lt_or_ge lb.length 2 with h2 | h2
  ·obtain ⟨y, rfl⟩ := List.length_eq_one_iff.1 (show lb.length = 1 by omega)
   have hvy : val [y] = y := by simp [val]
   rw [hvy] at h ⊢
   have h3 := tk (by simp)
   exact RdivWords_one A B c d la y w hm tl (by have : gd [y] 0 = y := rfl; simp at h3; omega) (hB.1 y (by simp)) h hA hB
  ·exact RdivWords_main A B c d la lb w h2 hm hml tl tk h hA hB
open Go.RowKit Go.Shelf
variable {A B : Option Addr} {ca cb : Nat} {la lb : List Nat} {na nb : Bool} {w : World} {x y : Int}
theorem IV.st {W : World} {n : Bool} {c : Nat} {l : List Nat} {z : Int} (h : IV W n A c l z) {p : Nat} {u : Bool} {k d : Nat} (hb : Box2 W p (.bool u) (.slice B k d)) (x y : Value) :
  IV ((W.setCell ⟨p, 0, none⟩ x).setCell ⟨p, 1, none⟩ y) n A c l z := ⟨h.cap, h.ws.two (ws_off_box hb (by simp) h.ws) _ _, h.can, h.val, h.len⟩
theorem m2450e {P : Prop} (h : P := by
 have h4 : y.natAbs * 1 ≤ y.natAbs * (x.tdiv y - x / y).natAbs := Nat.mul_le_mul_left _ (by omega)
 rw [← Int.natAbs_mul, hd] at h4
 omega) : P := h
theorem tdiv_nonneg (hy : y ≠ 0) (h : 0 ≤ x.tmod y) : x.tdiv y = x / y ∧ x.tmod y = x % y := by
 have e := Int.mul_tdiv_add_tmod x y
 have hl : (x.tmod y).natAbs < y.natAbs := by
  rw [Int.natAbs_tmod]
  exact Nat.mod_lt _ (by omega)
 have e2 := Int.mul_ediv_add_emod x y
 have h1 := Int.emod_nonneg x hy
 have h2 := Int.emod_lt x hy
 have hd : y * (x.tdiv y - x / y) = x % y - x.tmod y := by rw [Int.mul_sub]; omega
 have hz : x.tdiv y - x / y = 0 := by
  rcases Int.lt_trichotomy (x.tdiv y - x / y) 0 with h3 | h3 | h3
  ·exfalso
   exact m2450e
  ·exact h3
  ·exfalso
   exact m2450e
 rw [hz, Int.mul_zero] at hd
 exact ⟨by omega, by omega⟩
theorem tmod_neg (hy : y ≠ 0) (h : x.tmod y < 0) : x.tmod y + (y.natAbs : Int) = x % y ∧ (x - x % y).tdiv y = x / y := by
 have hl : (x.tmod y).natAbs < y.natAbs := by
  rw [Int.natAbs_tmod]
  exact Nat.mod_lt _ (by omega)
 have e := Int.mul_tdiv_add_tmod x y
 have e2 := Int.mul_ediv_add_emod x y
 have h1 := Int.emod_nonneg x hy
 have h2 := Int.emod_lt x hy
 constructor
 ·have hd : y * (x.tdiv y - x / y) = x % y - x.tmod y := by rw [Int.mul_sub]; omega
  have h3 : (x.tdiv y - x / y).natAbs = 1 := by
   have h4 := congrArg Int.natAbs hd
   rw [Int.natAbs_mul] at h4
   rcases Nat.lt_trichotomy (x.tdiv y - x / y).natAbs 1 with h5 | h5 | h5
   ·have h6 : (x.tdiv y - x / y).natAbs = 0 := by omega
    rw [h6, Nat.mul_zero] at h4
    omega
   ·exact h5
   ·exfalso
    have h6 : y.natAbs * 2 ≤ y.natAbs * (x.tdiv y - x / y).natAbs := Nat.mul_le_mul_left _ h5
    omega
  have h4 := congrArg Int.natAbs hd
  rw [Int.natAbs_mul, h3, Nat.mul_one] at h4
  omega
 ·have e3 : x - x % y = y * (x / y) := by omega
  rw [e3]
  exact Int.mul_tdiv_cancel_left _ hy
theorem abs_div_le (h : x.natAbs < 4611686018427387904) : (x / y).natAbs < 4611686018427387904 := Nat.lt_of_le_of_lt (Int.natAbs_ediv_le_natAbs x y) h
theorem m82d80 {P : Prop} (h : P := by
 have HI2 := Hi i2
 obtain ⟨p0, p1⟩ := hbq5.cs
 have pf0 := hbq5.free 0
 have pf1 := hbq5.free 1
 obtain ⟨p2, p3⟩ := hbr5.cs
 have pf2 := hbr5.free 0
 have pf3 := hbr5.free 1
 obtain ⟨k0, k1, k2⟩ := hbq5.back (.bool n1) (.slice A1 l1.length c1)
 have sr2 := box2_far hbr5 (q := w.heap.size + 1 + 1) (by omega) (.bool n1) (.slice A1 l1.length c1)
 obtain ⟨p4, p5⟩ := sr2.cs
 have pf4 := sr2.free 0
 have pf5 := sr2.free 1
 obtain ⟨m0, m1, m2⟩ := sr2.back (.bool n2) (.slice A2 l2.length c2)
 go_wp2_with fail
 refine bodyPost_ret (v := .tuple #[.agg #[.bool n1, .slice A1 l1.length c1], .agg #[.bool n2, .slice A2 l2.length c2], .int .i64 0]) (by simp [results, Tryz.results14, go_sem, k0, k2, m0, m2]) rfl ?_
 exact ⟨n1, A1, c1, l1, n2, A2, c2, l2, rfl, (HI1.out.st hbq5 _ _).st sr2 _ _, (HI2.out.st hbq5 _ _).st sr2 _ _, b2 (b2 HK5.out (by omega) _ _) (by omega) _ _⟩) : P := h
theorem m03ce0 {P : Prop} (h : P := by
 have := (Box2.new (((w.alloc (.cells #[.bool na, .slice A la.length ca] 24)).alloc (.cells #[.bool nb, .slice B lb.length cb] 24)).alloc (.cells #[.bool false, .slice none 0 0] 24)) (.bool false) (.slice none 0 0)).below hb0
 simpa using this) : P := h
theorem mbaa79 {P : Prop} (h : P := by
 have := ((Box2.new ((w.alloc (.cells #[.bool na, .slice A la.length ca] 24)).alloc (.cells #[.bool nb, .slice B lb.length cb] 24)) (.bool false) (.slice none 0 0)).alloc _).below hb0
 simpa using this) : P := h
theorem mf9692 {P : Prop} (h : P := by
 have := (((Box2.new (w.alloc (.cells #[.bool na, .slice A la.length ca] 24)) (.bool nb) (.slice B lb.length cb)).alloc _).alloc _).below hb0
 simpa using this) : P := h
theorem RDiv_pos (ia : IV w na A ca la x) (ib : IV w nb B cb lb y) (hy : y ≠ 0) (hxa : x.natAbs < 4611686018427387904) (hxb : y.natAbs < 4611686018427387904) (ht : 0 ≤ x.tmod y) :
  Calls Tryz.prog 14 #[.agg #[.bool na, .slice A la.length ca], .agg #[.bool nb, .slice B lb.length cb]] w (RDIV w (x / y) (x % y)) := by
 have ea := ia.len
 have eb := ib.len
 have HXA := Hi hxa
 have HXB := Hi hxb
 have HVA : Hid (val la = x.natAbs) := Hi (by rw [← ia.val]; unfold zI; split <;> simp)
 have HVB : Hid (val lb = y.natAbs) := Hi (by rw [← ib.val]; unfold zI; split <;> simp)
 have hlb0 : lb.length ≠ 0 := fun h => hy ((by have h1 := ib.val; rw [List.eq_nil_of_length_eq_zero h, zI_nil] at h1; exact h1.symm))
 have hlz : ((lb.length : Int) == 0) = false := beq_eq_false_iff_ne.2 (by omega)
 have HLX := Hi (lt_ediv (y := y) (lt_le (lt_val ia.ws ia.val) ia.len))
 have HLR := Hi (lt_emod (x := x) hy (lt_le (lt_val ib.ws ib.val) ib.len))
 have HYZ : Hid ((y == 0) = false ∧ ¬ y = 0) := Hi ⟨beq_eq_false_iff_ne.2 hy, hy⟩
 have hqb := abs_div_le (y := y) hxa
 have hrb : (x % y).natAbs < 4611686018427387904 := by
  have h1 := Int.emod_nonneg x hy
  have h2 := Int.emod_lt x hy
  omega
 obtain ⟨e1, e2⟩ := tdiv_nonneg hy ht
 obtain ⟨q, hq⟩ : ∃ q, q = x / y := ⟨_, rfl⟩
 obtain ⟨r, hr⟩ : ∃ r, r = x % y := ⟨_, rfl⟩
 have hr0 : ¬ r < 0 := by rw [hr, ← e2]; omega
 have HQUO : Hid (x.tdiv y = q) := Hi (by rw [e1, hq])
 have HREM : Hid (x.tmod y = r) := Hi (by rw [e2, hr])
 rw [← hq] at hqb
 rw [← hr] at hrb
 rw [← hq, ← hr]
 have HOQ := Hi (fun w => ROf_iv w q (by omega) (by omega))
 have HOR := Hi (fun w => ROf_iv w r (by omega) (by omega))
 have HWQ : Hid (wrap64 q = q ∧ wrap64 r = r) := Hi ⟨by unfold wrap64; omega, by unfold wrap64; omega⟩
 clear e1 e2 hq hr hqb hrb ht
 clear hxa hxb hy
 go_enter Tryz.func14, Tryz.ntmps14
 go_wp2_with fail
 refine (RIs_iv (ia.below (ba (ba (ba (ba (b0 _) _) _) _) _))).mono ?_
 rintro e w0 ⟨rfl, hb0⟩
 have hba0 : Box2 w0 w.heap.size (.bool na) (.slice A la.length ca) := ((((Box2.new w (.bool na) (.slice A la.length ca)).alloc _).alloc _).alloc _).below hb0
 have hbb0 : Box2 w0 (w.heap.size + 1) (.bool nb) (.slice B lb.length cb) := by
  exact mf9692
 have hbq0 : Box2 w0 (w.heap.size + 1 + 1) (.bool false) (.slice none 0 0) := by
  exact mbaa79
 have hbr0 : Box2 w0 (w.heap.size + 1 + 1 + 1) (.bool false) (.slice none 0 0) := by
  exact m03ce0
 have hK0 := bt (ba (ba (ba (ba (b0 w) _) _) _) _) hb0
 obtain ⟨y2, y3⟩ := hbb0.cs
 go_wp2_with fail
 refine (RIs_iv (ib.below hK0)).mono ?_
 rintro e w1 ⟨rfl, hb1⟩
 have hba := hba0.below hb1
 have hbb := hbb0.below hb1
 have hbq := hbq0.below hb1
 have hbr := hbr0.below hb1
 have hK := bt hK0 hb1
 clear hba0 hbb0 hbq0 hbr0 hK0 hb0 hb1 y2 y3
 obtain ⟨y0, y1⟩ := hba.cs
 obtain ⟨y2, y3⟩ := hbb.cs
 have hwA := ia.ws.below hK
 have hwB := ib.ws.below hK
 go_wp2_with fail
 refine (Rnative_yes (ia.below hK) HXA.out).mono ?_
 rintro e w2 ⟨rfl, hb2⟩
 replace hba := hba.below hb2
 replace hbb := hbb.below hb2
 replace hbq := hbq.below hb2
 replace hbr := hbr.below hb2
 replace hK := bt hK hb2
 clear y0 y1 y2 y3 hwA hwB
 obtain ⟨w1, hw1⟩ : ∃ v, v = w2 := ⟨_, rfl⟩
 try rw [← hw1] at hb2
 rw [← hw1] at hba hbb hbq hbr hK ⊢
 clear hw1
 obtain ⟨y0, y1⟩ := hba.cs
 obtain ⟨y2, y3⟩ := hbb.cs
 have hwA := ia.ws.below hK
 have hwB := ib.ws.below hK
 clear hb2
 go_wp2_with fail
 refine (Rnative_yes (ib.below hK) HXB.out).mono ?_
 rintro e w2 ⟨rfl, hb2⟩
 replace hba := hba.below hb2
 replace hbb := hbb.below hb2
 replace hbq := hbq.below hb2
 replace hbr := hbr.below hb2
 replace hK := bt hK hb2
 clear y0 y1 y2 y3 hwA hwB
 obtain ⟨w1, hw1⟩ : ∃ v, v = w2 := ⟨_, rfl⟩
 try rw [← hw1] at hb2
 rw [← hw1] at hba hbb hbq hbr hK ⊢
 clear hw1
 obtain ⟨y0, y1⟩ := hba.cs
 obtain ⟨y2, y3⟩ := hbb.cs
 have hwA := ia.ws.below hK
 have hwB := ib.ws.below hK
 clear hb2
 have hquo := HQUO.out
 have hrem := HREM.out
 have hyz := HYZ.out.1
 have hyz2 := HYZ.out.2
 go_wp2_with fail
 go_quiet (fail)
 rw [HWQ.out.1]
 go_wp2_with fail
 clear hquo hrem hyz hyz2
 refine (HOQ.out _).mono ?_
 rintro e w3 ⟨n1, A1, c1, l1, rfl, i1, hb3⟩
 have hb3 := bt (bd (b0 w1) _) hb3
 go_wp2_with fail
 refine (HOR.out _).mono ?_
 rintro e w4 ⟨n2, A2, c2, l2, rfl, i2, hb4⟩
 have hbq5 := (hbq.below hb3).below hb4
 have hbr5 := (hbr.below hb3).below hb4
 have HK5 := Hi (bt (bt hK hb3) hb4)
 have HI1 := Hi (i1.below hb4)
 exact m82d80
theorem m9bd9b {P : Prop} (h : P := by
 clear e1 e2 hq hr hte hse hqb hrb hxr hae hxre
 clear hxa hxb hy
 go_enter Tryz.func14, Tryz.ntmps14
 go_wp2_with fail
 refine (RIs_iv (ia.below (ba (ba (ba (ba (b0 _) _) _) _) _))).mono ?_
 rintro e w0 ⟨rfl, hb0⟩
 have hba0 : Box2 w0 w.heap.size (.bool na) (.slice A la.length ca) := ((((Box2.new w (.bool na) (.slice A la.length ca)).alloc _).alloc _).alloc _).below hb0
 have hbb0 : Box2 w0 (w.heap.size + 1) (.bool nb) (.slice B lb.length cb) := by
  exact mf9692
 have hbq0 : Box2 w0 (w.heap.size + 1 + 1) (.bool false) (.slice none 0 0) := by
  exact mbaa79
 have hbr0 : Box2 w0 (w.heap.size + 1 + 1 + 1) (.bool false) (.slice none 0 0) := by
  exact m03ce0
 have hK0 := bt (ba (ba (ba (ba (b0 w) _) _) _) _) hb0
 obtain ⟨y2, y3⟩ := hbb0.cs
 go_wp2_with fail
 refine (RIs_iv (ib.below hK0)).mono ?_
 rintro e w1 ⟨rfl, hb1⟩
 have hba := hba0.below hb1
 have hbb := hbb0.below hb1
 have hbq := hbq0.below hb1
 have hbr := hbr0.below hb1
 have hK := bt hK0 hb1
 clear hba0 hbb0 hbq0 hbr0 hK0 hb0 hb1 y2 y3
 obtain ⟨y0, y1⟩ := hba.cs
 obtain ⟨y2, y3⟩ := hbb.cs
 have hwA := ia.ws.below hK
 have hwB := ib.ws.below hK
 go_wp2_with fail
 refine (Rnative_yes (ia.below hK) HXA.out).mono ?_
 rintro e w2 ⟨rfl, hb2⟩
 replace hba := hba.below hb2
 replace hbb := hbb.below hb2
 replace hbq := hbq.below hb2
 replace hbr := hbr.below hb2
 replace hK := bt hK hb2
 clear y0 y1 y2 y3 hwA hwB
 obtain ⟨w1, hw1⟩ : ∃ v, v = w2 := ⟨_, rfl⟩
 try rw [← hw1] at hb2
 rw [← hw1] at hba hbb hbq hbr hK ⊢
 clear hw1
 obtain ⟨y0, y1⟩ := hba.cs
 obtain ⟨y2, y3⟩ := hbb.cs
 have hwA := ia.ws.below hK
 have hwB := ib.ws.below hK
 clear hb2
 go_wp2_with fail
 refine (Rnative_yes (ib.below hK) HXB.out).mono ?_
 rintro e w2 ⟨rfl, hb2⟩
 replace hba := hba.below hb2
 replace hbb := hbb.below hb2
 replace hbq := hbq.below hb2
 replace hbr := hbr.below hb2
 replace hK := bt hK hb2
 clear y0 y1 y2 y3 hwA hwB
 obtain ⟨w1, hw1⟩ : ∃ v, v = w2 := ⟨_, rfl⟩
 try rw [← hw1] at hb2
 rw [← hw1] at hba hbb hbq hbr hK ⊢
 clear hw1
 obtain ⟨y0, y1⟩ := hba.cs
 obtain ⟨y2, y3⟩ := hbb.cs
 have hwA := ia.ws.below hK
 have hwB := ib.ws.below hK
 clear hb2
 have hquo := HQUO.out
 have hrem := HREM.out
 have hyz := HYZ.out.1
 have hyz2 := HYZ.out.2
 go_wp2_with fail
 go_quiet (fail)
 clear hquo hrem
 have h1 := H1.out
 go_wp2_with fail
 clear h1
 rw [HMX.out, H2.out, H3.out, H4.out, H5.out]
 refine (HOQ.out _).mono ?_
 rintro e w3 ⟨n1, A1, c1, l1, rfl, i1, hb3⟩
 have hb3 := bt (bd (b0 w1) _) hb3
 go_wp2_with fail
 refine (HOR.out _).mono ?_
 rintro e w4 ⟨n2, A2, c2, l2, rfl, i2, hb4⟩
 have hbq5 := (hbq.below hb3).below hb4
 have hbr5 := (hbr.below hb3).below hb4
 have HK5 := Hi (bt (bt hK hb3) hb4)
 have HI1 := Hi (i1.below hb4)
 exact m82d80) : P := h
theorem RDiv_negp (ia : IV w na A ca la x) (ib : IV w nb B cb lb y) (hy : y ≠ 0) (hxa : x.natAbs < 4611686018427387904) (hxb : y.natAbs < 4611686018427387904) (ht : x.tmod y < 0) (hp : 0 < y) :
  Calls Tryz.prog 14 #[.agg #[.bool na, .slice A la.length ca], .agg #[.bool nb, .slice B lb.length cb]] w (RDIV w (x / y) (x % y)) := by
 have ea := ia.len
 have eb := ib.len
 have HXA := Hi hxa
 have HXB := Hi hxb
 have HVA : Hid (val la = x.natAbs) := Hi (by rw [← ia.val]; unfold zI; split <;> simp)
 have HVB : Hid (val lb = y.natAbs) := Hi (by rw [← ib.val]; unfold zI; split <;> simp)
 have hlb0 : lb.length ≠ 0 := fun h => hy ((by have h1 := ib.val; rw [List.eq_nil_of_length_eq_zero h, zI_nil] at h1; exact h1.symm))
 have hlz : ((lb.length : Int) == 0) = false := beq_eq_false_iff_ne.2 (by omega)
 have HLX := Hi (lt_ediv (y := y) (lt_le (lt_val ia.ws ia.val) ia.len))
 have HLR := Hi (lt_emod (x := x) hy (lt_le (lt_val ib.ws ib.val) ib.len))
 have HYZ : Hid ((y == 0) = false ∧ ¬ y = 0) := Hi ⟨beq_eq_false_iff_ne.2 hy, hy⟩
 have hqb := abs_div_le (y := y) hxa
 have hrb : (x % y).natAbs < 4611686018427387904 := by
  have h1 := Int.emod_nonneg x hy
  have h2 := Int.emod_lt x hy
  omega
 obtain ⟨e1, e2⟩ := tmod_neg hy ht
 obtain ⟨q, hq⟩ : ∃ q, q = x / y := ⟨_, rfl⟩
 obtain ⟨r, hr⟩ : ∃ r, r = x % y := ⟨_, rfl⟩
 obtain ⟨t, hte⟩ : ∃ t, t = x.tmod y := ⟨_, rfl⟩
 obtain ⟨s, hse⟩ : ∃ s, s = x.tdiv y := ⟨_, rfl⟩
 rw [← hr, ← hq] at e2
 rw [← hte, ← hr] at e1
 rw [← hte] at ht
 have HQUO : Hid (x.tdiv y = s) := Hi hse.symm
 have HREM : Hid (x.tmod y = t) := Hi hte.symm
 rw [← hq] at hqb
 rw [← hr] at hrb
 rw [← hq, ← hr]
 have HOQ := Hi (fun w => ROf_iv w q (by omega) (by omega))
 have HOR := Hi (fun w => ROf_iv w r (by omega) (by omega))
 have hxr : (x - r).natAbs < 9223372036854775807 := by omega
 obtain ⟨a, hae⟩ : ∃ a : Int, a = (y.natAbs : Int) := ⟨_, rfl⟩
 obtain ⟨xr, hxre⟩ : ∃ xr, xr = x - r := ⟨_, rfl⟩
 have H1 : Hid (wrap64 (-y) = -y) := Hi (by unfold wrap64; omega)
 have H2 : Hid (wrap64 (t + y) = r) := Hi (by unfold wrap64; omega)
 have H3 : Hid (wrap64 (x - r) = xr) := Hi (by unfold wrap64; omega)
 have H4 : Hid (xr.tdiv y = q) := Hi (by rw [hxre]; exact e2)
 have H5 : Hid (wrap64 q = q) := Hi (by unfold wrap64; omega)
 have HMX : Hid (max y (-y) = y) := Hi (by omega)
 exact m9bd9b
theorem RDiv_negn (ia : IV w na A ca la x) (ib : IV w nb B cb lb y) (hy : y ≠ 0) (hxa : x.natAbs < 4611686018427387904) (hxb : y.natAbs < 4611686018427387904) (ht : x.tmod y < 0) (hp : y < 0) :
  Calls Tryz.prog 14 #[.agg #[.bool na, .slice A la.length ca], .agg #[.bool nb, .slice B lb.length cb]] w (RDIV w (x / y) (x % y)) := by
 have ea := ia.len
 have eb := ib.len
 have HXA := Hi hxa
 have HXB := Hi hxb
 have HVA : Hid (val la = x.natAbs) := Hi (by rw [← ia.val]; unfold zI; split <;> simp)
 have HVB : Hid (val lb = y.natAbs) := Hi (by rw [← ib.val]; unfold zI; split <;> simp)
 have hlb0 : lb.length ≠ 0 := fun h => hy ((by have h1 := ib.val; rw [List.eq_nil_of_length_eq_zero h, zI_nil] at h1; exact h1.symm))
 have hlz : ((lb.length : Int) == 0) = false := beq_eq_false_iff_ne.2 (by omega)
 have HLX := Hi (lt_ediv (y := y) (lt_le (lt_val ia.ws ia.val) ia.len))
 have HLR := Hi (lt_emod (x := x) hy (lt_le (lt_val ib.ws ib.val) ib.len))
 have HYZ : Hid ((y == 0) = false ∧ ¬ y = 0) := Hi ⟨beq_eq_false_iff_ne.2 hy, hy⟩
 have hqb := abs_div_le (y := y) hxa
 have hrb : (x % y).natAbs < 4611686018427387904 := by
  have h1 := Int.emod_nonneg x hy
  have h2 := Int.emod_lt x hy
  omega
 obtain ⟨e1, e2⟩ := tmod_neg hy ht
 obtain ⟨q, hq⟩ : ∃ q, q = x / y := ⟨_, rfl⟩
 obtain ⟨r, hr⟩ : ∃ r, r = x % y := ⟨_, rfl⟩
 obtain ⟨t, hte⟩ : ∃ t, t = x.tmod y := ⟨_, rfl⟩
 obtain ⟨s, hse⟩ : ∃ s, s = x.tdiv y := ⟨_, rfl⟩
 rw [← hr, ← hq] at e2
 rw [← hte, ← hr] at e1
 rw [← hte] at ht
 have HQUO : Hid (x.tdiv y = s) := Hi hse.symm
 have HREM : Hid (x.tmod y = t) := Hi hte.symm
 rw [← hq] at hqb
 rw [← hr] at hrb
 rw [← hq, ← hr]
 have HOQ := Hi (fun w => ROf_iv w q (by omega) (by omega))
 have HOR := Hi (fun w => ROf_iv w r (by omega) (by omega))
 have hxr : (x - r).natAbs < 9223372036854775807 := by omega
 obtain ⟨a, hae⟩ : ∃ a : Int, a = (y.natAbs : Int) := ⟨_, rfl⟩
 obtain ⟨xr, hxre⟩ : ∃ xr, xr = x - r := ⟨_, rfl⟩
 have H1 : Hid (wrap64 (-y) = -y) := Hi (by unfold wrap64; omega)
 have H2 : Hid (wrap64 (t + -y) = r) := Hi (by unfold wrap64; omega)
 have H3 : Hid (wrap64 (x - r) = xr) := Hi (by unfold wrap64; omega)
 have H4 : Hid (xr.tdiv y = q) := Hi (by rw [hxre]; exact e2)
 have H5 : Hid (wrap64 q = q) := Hi (by unfold wrap64; omega)
 have HMX : Hid (max y (-y) = -y) := Hi (by omega)
 exact m9bd9b
end Go.Proofs.YtgljdfblgpdaaaaGreatDoor
