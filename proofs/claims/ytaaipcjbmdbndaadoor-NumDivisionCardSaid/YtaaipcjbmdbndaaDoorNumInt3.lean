/- Integers: Of, Neg, Abs, Add, Sub, Mul. -/
import Derived.Test.YtaaipcjbmdbndaaDoorNumInt2
import Derived.Deep.RegionHeld3
import Derived.Deep.RegionWith
namespace Go.Proofs.YtaaipcjbmdbndaaDoor
open Go.RowKit

theorem box2_far {W : World} {p q : Nat} {u v : Value} (h : Box2 W p u v) (hne : p ≠ q) (x y : Value) : Box2 ((W.setCell ⟨q, 0, none⟩ x).setCell ⟨q, 1, none⟩ y) p u v :=
  ((Below.heap_setCell _ ⟨q, 1, none⟩ y p hne).trans (Below.heap_setCell _ ⟨q, 0, none⟩ x p hne)).trans h
theorem zI_mul {na nb : Bool} {l k l1 : List Nat} (h : val l1 = val l * val k) : zI (na != nb) l1 = zI na l * zI nb k := by
  unfold zI
  rw [h]
  cases na <;> cases nb <;> simp [Int.mul_neg, Int.neg_mul]
theorem ires_of {a w w' : World} {z : Int} {e : Ending} (h : IRes w z e w') (hb : Below a.heap.size a w) : IRes a z e w' := by
  obtain ⟨neg, A, c, l, h1, h2, h3, h4, h5, h6⟩ := h
  exact ⟨neg, A, c, l, h1, h2, h3.mono hb.size, h4, h5, bt hb h6⟩
/-- What is returned for arguments that are canonical (p), 0 otherwise. -/
def ite0 (p : Bool) (z : Int) : Int := if p then z else 0
/-- The end of a function that stores the integer of a callee into its result. -/
theorem ires_store {a W0 w w2 : World} {p : Nat} {z : Int} {ng : Bool} {A : Option Addr} {c : Nat} {l : List Nat} (hw : Below a.heap.size a w) (h0 : Below w.heap.size w W0) (hp : p < W0.heap.size) (hp2 : w.heap.size ≤ p)
    (hc : l.length ≤ c) (hl : OwnS W0 w2 A l) (hB : isB ng l = true) (hz : zI ng l = z) (hb : Below W0.heap.size W0 w2) :
    IRes a z (.returned (.agg #[.bool ng, .slice A l.length c])) ((w2.setCell ⟨p, 0, none⟩ (.bool ng)).setCell ⟨p, 1, none⟩ (.slice A l.length c)) :=
  ⟨ng, A, c, l, rfl, hc, (hl.two hp _ _).mono (bt hw h0).size, hB, hz, b2 (bt (bt hw h0) hb) (Nat.le_trans hw.size hp2) _ _⟩

set_option maxRecDepth 100000 in
set_option maxHeartbeats 400000 in
theorem Of_pos (a w : World) (x : Nat) (hx : x < 9223372036854775808) (hw : Below a.heap.size a w) :
    Calls Tryd.prog 19 #[.int .i64 (x : Int)] w (IRes a (x : Int)) := by
  have hlt0 : decide ((x : Int) < 0) = false := by simp
  go_enter Tryd.func19, Tryd.ntmps19
  go_wp2_with fail
  refine (fromSingle_any _ _ x (by omega) (b0 _)).mono ?_
  rintro e w1 ⟨A, c, l, rfl, hc, ho, ht, hv, hb⟩
  have hlen : l.length ≤ 2 := top_len ht (by rw [hv]; show x < 4294967296 ^ 2; omega)
  have HV := Lib.hid hv
  clear hv
  go_wp2_with fail
  refine (signed_res _ _ false A c l (by omega) hc ho ht hb).mono ?_
  rintro e w2 ⟨ng, A2, c2, l2, rfl, hc2, hl2, hB, hz, hb2⟩
  have hbx := (Box2.new w (.bool false) (.slice none 0 0)).below hb2
  have q0 := hbx.cell0
  have q1 := hbx.cell1
  have f0 := hbx.free 0
  have f1 := hbx.free 1
  obtain ⟨k0, k1, k2⟩ := hbx.back (.bool ng) (.slice A2 l2.length c2)
  have HZ := Lib.hid hz
  have HBB := Lib.hid hB
  clear hz hB
  go_wp2_with fail
  refine bodyPost_ret (v := .agg #[.bool ng, .slice A2 l2.length c2]) (by simp [results, Tryd.results19, go_sem, k0, k2]) rfl ?_
  exact ires_store hw (ba (b0 _) _) (by simp) (Nat.le_refl _) hc2 hl2 HBB.out (by rw [HZ.out]; show (val l : Int) = _; rw [HV.out]) hb2

set_option maxRecDepth 100000 in
set_option maxHeartbeats 400000 in
theorem Neg_any (a w : World) (neg : Bool) (A : Option Addr) (n c : Nat) (l : List Nat) (p : Bool) (hn : l.length = n) (hm : n ≤ 4000000) (hl : WS w A l) (hp : isB neg l = p) (hw : Below a.heap.size a w) :
    Calls Tryd.prog 21 #[.agg #[.bool neg, .slice A n c]] w (IRes a (ite0 p (-(zI neg l)))) := by
  subst hn
  have HP := Lib.hid hp
  clear hp
  cases p
  · rw [show ite0 false (-(zI neg l)) = 0 from rfl]
    go_enter Tryd.func21, Tryd.ntmps21
    go_wp2_with fail
    refine (Is_any neg A _ c l _ rfl hm (hl.below (ba (ba (b0 _) _) _))).mono ?_
    rintro e w1 ⟨rfl, hb⟩
    rw [HP.out]
    have hbx := (Box2.new (w.alloc (.cells #[.bool neg, .slice A l.length c] 24)) (.bool false) (.slice none 0 0)).below hb
    rw [World.size_alloc] at hbx
    have q0 := hbx.cell0
    have q1 := hbx.cell1
    have f0 := hbx.free 0
    have f1 := hbx.free 1
    obtain ⟨k0, k1, k2⟩ := hbx.back (.bool false) (.slice none 0 0)
    go_wp2_with fail
    refine bodyPost_ret (v := .agg #[.bool false, .slice none 0 0]) (by simp [results, Tryd.results21, go_sem, k0, k2]) rfl ?_
    exact ires_zero _ _ (b2 (bt (bt hw (ba (ba (b0 _) _) _)) hb) (by have := hw.size; omega) _ _)
  · rw [show ite0 true (-(zI neg l)) = -(zI neg l) from rfl]
    go_enter Tryd.func21, Tryd.ntmps21
    go_wp2_with fail
    refine (Is_any neg A _ c l _ rfl hm (hl.below (ba (ba (b0 _) _) _))).mono ?_
    rintro e w1 ⟨rfl, hb⟩
    rw [HP.out]
    have hbx := (Box2.new (w.alloc (.cells #[.bool neg, .slice A l.length c] 24)) (.bool false) (.slice none 0 0)).below hb
    rw [World.size_alloc] at hbx
    have hby := ((Box2.new w (.bool neg) (.slice A l.length c)).alloc (.cells #[.bool false, .slice none 0 0] 24)).below hb
    have y0 := hby.cell0
    have y1 := hby.cell1
    go_wp2_with fail
    have hl1 : WS w1 A l := hl.below (bt (ba (ba (b0 _) _) _) hb)
    go_region_held3 (fun W => W.cell? ⟨w.heap.size, 0, none⟩ = some (.bool neg) ∧ W.cell? ⟨w.heap.size, 1, none⟩ = some (.slice A l.length c))
      (first | exact ⟨y0, y1⟩ | exact ⟨z0, z1⟩ | exact ⟨v0, v1⟩ | go_keep)
      (first
        | (go_at_call 52; refine (own_res w1 _ A l.length c l rfl hm (isB_top HP.out) (hl1.below (bd (b0 _) _)) (bd (b0 _) _)).mono ?_; rintro e w2 ⟨A1, c1, l1, rfl, hlc1, ho1, ht1, hv1, hb2⟩; have hlen1 : l1.length ≤ l.length := top_len ht1 (by rw [hv1]; exact val_lt hl.1); have HV1 := Lib.hid hv1; clear hv1; have hbx2 := hbx.below hb2; have z0 := (hby.below hb2).cell0; have z1 := (hby.below hb2).cell1)
        | (go_at_call 42; refine (signed_res w1 _ (!neg) A1 c1 l1 (by omega) hlc1 ?_ ht1 ?_).mono ?_; (first | exact ho1 | exact ho1.below (bd (b0 _) _)); (first | exact hb2 | exact bd hb2 _); rintro e w3 ⟨ng, A3, c3, l3, rfl, hc3, hl3, hB3, hz3, hb3⟩; have HZ3 := Lib.hid hz3; have HB3 := Lib.hid hB3; clear hz3 hB3; have hbx3 := hbx.below hb3; have x0 := hbx3.cell0; have x1 := hbx3.cell1; have f0 := hbx3.free 0; have f1 := hbx3.free 1; have v0 := (hby.below hb3).cell0; have v1 := (hby.below hb3).cell1))
    obtain ⟨k0, k1, k2⟩ := hbx3.back (.bool ng) (.slice A3 l3.length c3)
    go_wp2_with fail
    refine bodyPost_ret (v := .agg #[.bool ng, .slice A3 l3.length c3]) (by simp [results, Tryd.results21, go_sem, k0, k2]) rfl ?_
    refine ires_store hw (bt (ba (ba (b0 _) _) _) hb) (by have := hb.size; simp at this; omega) (by omega) hc3 hl3 HB3.out ?_ hb3
    rw [HZ3.out]
    unfold zI
    rw [HV1.out]
    cases neg <;> simp

set_option maxRecDepth 100000 in
set_option maxHeartbeats 400000 in
theorem Abs_any (a w : World) (neg : Bool) (A : Option Addr) (n c : Nat) (l : List Nat) (p : Bool) (hn : l.length = n) (hm : n ≤ 4000000) (hl : WS w A l) (hp : isB neg l = p) (hw : Below a.heap.size a w) :
    Calls Tryd.prog 25 #[.agg #[.bool neg, .slice A n c]] w (IRes a (ite0 p (val l))) := by
  subst hn
  have HP := Lib.hid hp
  clear hp
  cases p
  · rw [show ite0 false (val l : Int) = 0 from rfl]
    go_enter Tryd.func25, Tryd.ntmps25
    go_wp2_with fail
    refine (Is_any neg A _ c l _ rfl hm (hl.below (ba (ba (b0 _) _) _))).mono ?_
    rintro e w1 ⟨rfl, hb⟩
    rw [HP.out]
    have hbx := (Box2.new (w.alloc (.cells #[.bool neg, .slice A l.length c] 24)) (.bool false) (.slice none 0 0)).below hb
    rw [World.size_alloc] at hbx
    have q0 := hbx.cell0
    have q1 := hbx.cell1
    have f0 := hbx.free 0
    have f1 := hbx.free 1
    obtain ⟨k0, k1, k2⟩ := hbx.back (.bool false) (.slice none 0 0)
    go_wp2_with fail
    refine bodyPost_ret (v := .agg #[.bool false, .slice none 0 0]) (by simp [results, Tryd.results25, go_sem, k0, k2]) rfl ?_
    exact ires_zero _ _ (b2 (bt (bt hw (ba (ba (b0 _) _) _)) hb) (by have := hw.size; omega) _ _)
  · rw [show ite0 true (val l : Int) = (val l : Int) from rfl]
    go_enter Tryd.func25, Tryd.ntmps25
    go_wp2_with fail
    refine (Is_any neg A _ c l _ rfl hm (hl.below (ba (ba (b0 _) _) _))).mono ?_
    rintro e w1 ⟨rfl, hb⟩
    rw [HP.out]
    have hbx := (Box2.new (w.alloc (.cells #[.bool neg, .slice A l.length c] 24)) (.bool false) (.slice none 0 0)).below hb
    rw [World.size_alloc] at hbx
    have hby := ((Box2.new w (.bool neg) (.slice A l.length c)).alloc (.cells #[.bool false, .slice none 0 0] 24)).below hb
    have y0 := hby.cell0
    have y1 := hby.cell1
    have hl1 : WS w1 A l := hl.below (bt (ba (ba (b0 _) _) _) hb)
    go_wp2_with fail
    refine (own_res w1 _ A l.length c l rfl hm (isB_top HP.out) hl1 (b0 _)).mono ?_
    rintro e w2 ⟨A1, c1, l1, rfl, hlc1, ho1, ht1, hv1, hb2⟩
    have hlen1 : l1.length ≤ l.length := top_len ht1 (by rw [hv1]; exact val_lt hl.1)
    have HV1 := Lib.hid hv1
    clear hv1
    go_wp2_with fail
    refine (signed_res w1 _ false A1 c1 l1 (by omega) hlc1 ho1 ht1 hb2).mono ?_
    rintro e w3 ⟨ng, A3, c3, l3, rfl, hc3, hl3, hB3, hz3, hb3⟩
    have HZ3 := Lib.hid hz3
    have HB3 := Lib.hid hB3
    clear hz3 hB3
    have hbx3 := hbx.below hb3
    have x0 := hbx3.cell0
    have x1 := hbx3.cell1
    have f0 := hbx3.free 0
    have f1 := hbx3.free 1
    obtain ⟨k0, k1, k2⟩ := hbx3.back (.bool ng) (.slice A3 l3.length c3)
    go_wp2_with fail
    refine bodyPost_ret (v := .agg #[.bool ng, .slice A3 l3.length c3]) (by simp [results, Tryd.results25, go_sem, k0, k2]) rfl ?_
    refine ires_store hw (bt (ba (ba (b0 _) _) _) hb) (by have := hb.size; simp at this; omega) (by omega) hc3 hl3 HB3.out ?_ hb3
    rw [HZ3.out]
    unfold zI
    rw [HV1.out]
    simp

set_option maxRecDepth 100000 in
set_option maxHeartbeats 400000 in
theorem Mul_any (a w : World) (na nb : Bool) (A B : Option Addr) (n c m d : Nat) (l k : List Nat) (p q : Bool) (hn : l.length = n) (hm : k.length = m) (hnm : n ≤ 48) (hmm : m ≤ 48) (hl : WS w A l) (hk : WS w B k) (hp : isB na l = p) (hq : isB nb k = q) (hw : Below a.heap.size a w) :
    Calls Tryd.prog 18 #[.agg #[.bool na, .slice A n c], .agg #[.bool nb, .slice B m d]] w (IRes a (ite0 (p && q) (zI na l * zI nb k))) := by
  subst hn hm
  have HP := Lib.hid hp
  have HQ := Lib.hid hq
  clear hp hq
  by_cases hpq : (p && q) = true
  · obtain ⟨rfl, rfl⟩ : p = true ∧ q = true := by simpa using hpq
    clear hpq
    rw [show ite0 (true && true) (zI na l * zI nb k) = zI na l * zI nb k from rfl]
    go_enter Tryd.func18, Tryd.ntmps18
    go_wp2_with fail
    refine (both_any na nb A B _ c _ d l k true true _ rfl rfl (by omega) (by omega) (hl.below (ba (ba (ba (b0 _) _) _) _)) (hk.below (ba (ba (ba (b0 _) _) _) _)) HP.out HQ.out).mono ?_
    rintro e w1 ⟨rfl, hb⟩
    have hbx := (Box2.new ((w.alloc (.cells #[.bool na, .slice A l.length c] 24)).alloc (.cells #[.bool nb, .slice B k.length d] 24)) (.bool false) (.slice none 0 0)).below hb
    rw [World.size_alloc, World.size_alloc] at hbx
    have hby := (((Box2.new w (.bool na) (.slice A l.length c)).alloc (.cells #[.bool nb, .slice B k.length d] 24)).alloc (.cells #[.bool false, .slice none 0 0] 24)).below hb
    have hbz := ((Box2.new (w.alloc (.cells #[.bool na, .slice A l.length c] 24)) (.bool nb) (.slice B k.length d)).alloc (.cells #[.bool false, .slice none 0 0] 24)).below hb
    rw [World.size_alloc] at hbz
    have y0 := hby.cell0
    have y1 := hby.cell1
    have y2 := hbz.cell0
    have y3 := hbz.cell1
    have hl1 : WS w1 A l := hl.below (bt (ba (ba (ba (b0 _) _) _) _) hb)
    have hk1 : WS w1 B k := hk.below (bt (ba (ba (ba (b0 _) _) _) _) hb)
    go_wp2_with fail
    go_region_held3 (fun W => W.cell? ⟨w.heap.size, 0, none⟩ = some (.bool na) ∧ W.cell? ⟨w.heap.size, 1, none⟩ = some (.slice A l.length c) ∧ W.cell? ⟨w.heap.size + 1, 0, none⟩ = some (.bool nb) ∧ W.cell? ⟨w.heap.size + 1, 1, none⟩ = some (.slice B k.length d))
      (first | exact ⟨y0, y1, y2, y3⟩ | exact ⟨z0, z1, z2, z3⟩ | exact ⟨v0, v1, v2, v3⟩ | exact ⟨s0, s1, s2, s3⟩ | go_keep)
      (first
        | (go_at_call 50; refine (product_any48 w1 _ A B l.length c k.length d l k rfl rfl hnm hmm (hl1.below (bd (b0 _) _)) (hk1.below (bd (b0 _) _)) (bd (b0 _) _)).mono ?_; rintro e w2 ⟨A1, c1, l1, rfl, hlc1, ho1, ht1, hv1, hb2⟩; have hlen1 : l1.length ≤ l.length + k.length := top_len ht1 (by rw [hv1, BB_add]; exact Nat.mul_lt_mul_of_lt_of_lt (val_lt hl.1) (val_lt hk.1)); have HV1 := Lib.hid hv1; clear hv1; have hbx2 := hbx.below hb2; have z0 := (hby.below hb2).cell0; have z1 := (hby.below hb2).cell1; have z2 := (hbz.below hb2).cell0; have z3 := (hbz.below hb2).cell1)
        | (go_at_call 42; refine (signed_res w1 _ (na != nb) A1 c1 l1 (by omega) hlc1 ?_ ht1 ?_).mono ?_; (first | exact ho1 | exact ho1.below (bd (b0 _) _)); (first | exact hb2 | exact bd hb2 _); rintro e w3 ⟨ng, A3, c3, l3, rfl, hc3, hl3, hB3, hz3, hb3⟩; have HZ3 := Lib.hid hz3; have HB3 := Lib.hid hB3; clear hz3 hB3; have hbx3 := hbx.below hb3; have x0 := hbx3.cell0; have x1 := hbx3.cell1; have f0 := hbx3.free 0; have f1 := hbx3.free 1; have v0 := (hby.below hb3).cell0; have v1 := (hby.below hb3).cell1; have v2 := (hbz.below hb3).cell0; have v3 := (hbz.below hb3).cell1; have hs := box2_far (hby.below hb3) (q := w.heap.size + 1 + 1) (by omega) (.bool ng) (.slice A3 l3.length c3); have ht := box2_far (hbz.below hb3) (q := w.heap.size + 1 + 1) (by omega) (.bool ng) (.slice A3 l3.length c3); have s0 := hs.cell0; have s1 := hs.cell1; have s2 := ht.cell0; have s3 := ht.cell1))
    obtain ⟨k0, k1, k2⟩ := hbx3.back (.bool ng) (.slice A3 l3.length c3)
    go_wp2_with fail
    refine bodyPost_ret (v := .agg #[.bool ng, .slice A3 l3.length c3]) (by simp [results, Tryd.results18, go_sem, k0, k2]) rfl ?_
    refine ires_store hw (bt (ba (ba (ba (b0 _) _) _) _) hb) (by have := hb.size; simp at this; omega) (by omega) hc3 hl3 HB3.out ?_ hb3
    rw [HZ3.out]
    exact zI_mul HV1.out
  · have hf : (p && q) = false := by simpa using hpq
    rw [hf, show ite0 false (zI na l * zI nb k) = 0 from rfl]
    have HF := Lib.hid hf
    clear hpq hf
    go_enter Tryd.func18, Tryd.ntmps18
    go_wp2_with fail
    refine (both_any na nb A B _ c _ d l k p q _ rfl rfl (by omega) (by omega) (hl.below (ba (ba (ba (b0 _) _) _) _)) (hk.below (ba (ba (ba (b0 _) _) _) _)) HP.out HQ.out).mono ?_
    rintro e w1 ⟨rfl, hb⟩
    rw [HF.out]
    have hbx := (Box2.new ((w.alloc (.cells #[.bool na, .slice A l.length c] 24)).alloc (.cells #[.bool nb, .slice B k.length d] 24)) (.bool false) (.slice none 0 0)).below hb
    rw [World.size_alloc, World.size_alloc] at hbx
    have q0 := hbx.cell0
    have q1 := hbx.cell1
    have f0 := hbx.free 0
    have f1 := hbx.free 1
    obtain ⟨k0, k1, k2⟩ := hbx.back (.bool false) (.slice none 0 0)
    go_wp2_with fail
    refine bodyPost_ret (v := .agg #[.bool false, .slice none 0 0]) (by simp [results, Tryd.results18, go_sem, k0, k2]) rfl ?_
    exact ires_zero _ _ (b2 (bt (bt hw (ba (ba (ba (b0 _) _) _) _)) hb) (by have := hw.size; omega) _ _)
end Go.Proofs.YtaaipcjbmdbndaaDoor
