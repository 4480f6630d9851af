/- product, of any words; Mul. -/
import Derived.Test.YtaaipcjbmdbndaaDoorNumPie
import Derived.Test.YtaaipcjbmdbndaaDoorNumInt3
namespace Go.Proofs.YtaaipcjbmdbndaaDoor
open Go.RowKit

set_option maxRecDepth 100000 in
set_option maxHeartbeats 1000000 in
theorem product_step_ge (M : Nat) (hP : ProdOk M) (a w : World) (A B : Option Addr) (c d : Nat) (l k : List Nat) (hM : l.length + k.length ≤ M) (hM2 : M ≤ 2000000) (hkl : k.length ≤ l.length) (h48 : 48 < k.length) (hc : l.length ≤ c) (hd : k.length ≤ d) (hl : WS w A l) (hk : WS w B k) (hw : Below a.heap.size a w) :
    Calls Tryd.prog 50 #[.slice A l.length c, .slice B k.length d] w (Res a (val l * val k)) := by
  have hP' : ProdOk (l.length + k.length) := fun a w A B n c m d l' k' e1 e2 hlt => hP a w A B n c m d l' k' e1 e2 (by omega)
  have HP := Lib.hid hP'
  clear hP hP'
  have hne : decide (l.length < k.length) = false := by simp; omega
  have hmk := fun W => run_mk ((l.length : Int) + (k.length : Int)) (l.length + k.length) (by simp) (by omega) W
  have hz : ((k.length : Int) == 0) = false := beq_eq_false_iff_ne.2 (by omega)
  have hle : decide ((k.length : Int) ≤ 48) = false := by simp; omega
  have hll : l.length ≤ 2000000 := by omega
  by_cases h2 : 2 * k.length ≤ l.length + 1
  · have h2i : decide (2 * (k.length : Int) ≤ (l.length : Int) + 1) = true := by simp; omega
    go_enter Tryd.func50, Tryd.ntmps50
    go_wp2_with fail
    refine (byPieces_any w.heap.size (l.length + k.length) A B c d l k _ rfl (by omega) h2 (by omega) (by omega) hc hd HP.out (Blk.new w _ (zer_lt _)) (hl.below (ba (b0 _) _)) (hk.below (ba (b0 _) _)) (hl.off (Nat.le_refl _)) (hk.off (Nat.le_refl _))).mono ?_
    rintro e w1 ⟨S, rfl, hS, hv, hb, hO⟩
    have HS := Lib.hid hS
    have HV := Lib.hid hv
    clear hS hv
    go_wp2_with fail
    refine (trim_own a _ w.heap.size (l.length + k.length) (l.length + k.length) S (val l * val k) (by omega) (Nat.le_refl _) hw.size hb (by rw [HS.out]; omega) (by rw [← HS.out, List.take_length]; exact HV.out) (bt hw (bo (b0 w) ((Only.mono (ba (b0 _) _)).trans hO) (Nat.le_refl _)))).mono ?_
    rintro e w2 h
    obtain ⟨A', c', l', rfl, hR⟩ := h
    go_wp2_with fail
    go_ret
    exact ⟨A', c', l', rfl, hR⟩
  · have h2i : decide (2 * (k.length : Int) ≤ (l.length : Int) + 1) = false := by simp; omega
    go_enter Tryd.func50, Tryd.ntmps50
    go_wp2_with fail
    refine (byHalves_any w.heap.size (l.length + k.length) A B c d l k _ rfl h48 (by omega) hkl (by omega) hc hd HP.out (Blk.new w _ (zer_lt _)) (hl.below (ba (b0 _) _)) (hk.below (ba (b0 _) _)) (hl.off (Nat.le_refl _)) (hk.off (Nat.le_refl _))).mono ?_
    rintro e w1 ⟨S, rfl, hS, hv, hb, hO⟩
    have HS := Lib.hid hS
    have HV := Lib.hid hv
    clear hS hv
    go_wp2_with fail
    refine (trim_own a _ w.heap.size (l.length + k.length) (l.length + k.length) S (val l * val k) (by omega) (Nat.le_refl _) hw.size hb (by rw [HS.out]; omega) (by rw [← HS.out, List.take_length]; exact HV.out) (bt hw (bo (b0 w) ((Only.mono (ba (b0 _) _)).trans hO) (Nat.le_refl _)))).mono ?_
    rintro e w2 h
    obtain ⟨A', c', l', rfl, hR⟩ := h
    go_wp2_with fail
    go_ret
    exact ⟨A', c', l', rfl, hR⟩

set_option maxRecDepth 100000 in
set_option maxHeartbeats 1000000 in
theorem product_step_lt (M : Nat) (hP : ProdOk M) (a w : World) (A B : Option Addr) (c d : Nat) (l k : List Nat) (hM : l.length + k.length ≤ M) (hM2 : M ≤ 2000000) (hkl : l.length < k.length) (h48 : 48 < l.length) (hc : l.length ≤ c) (hd : k.length ≤ d) (hl : WS w A l) (hk : WS w B k) (hw : Below a.heap.size a w) :
    Calls Tryd.prog 50 #[.slice A l.length c, .slice B k.length d] w (Res a (val l * val k)) := by
  have hP' : ProdOk (k.length + l.length) := fun a w A B n c m d l' k' e1 e2 hlt => hP a w A B n c m d l' k' e1 e2 (by omega)
  have HP := Lib.hid hP'
  clear hP hP'
  have hne : decide (l.length < k.length) = true := by simp; omega
  have hmk := fun W => run_mk ((k.length : Int) + (l.length : Int)) (k.length + l.length) (by simp) (by omega) W
  have hz : ((l.length : Int) == 0) = false := beq_eq_false_iff_ne.2 (by omega)
  have hle : decide ((l.length : Int) ≤ 48) = false := by simp; omega
  have hll : k.length ≤ 2000000 := by omega
  rw [Nat.mul_comm]
  by_cases h2 : 2 * l.length ≤ k.length + 1
  · have h2i : decide (2 * (l.length : Int) ≤ (k.length : Int) + 1) = true := by simp; omega
    go_enter Tryd.func50, Tryd.ntmps50
    go_wp2_with fail
    refine (byPieces_any w.heap.size (k.length + l.length) B A d c k l _ rfl (by omega) h2 (by omega) (by omega) hd hc HP.out (Blk.new w _ (zer_lt _)) (hk.below (ba (b0 _) _)) (hl.below (ba (b0 _) _)) (hk.off (Nat.le_refl _)) (hl.off (Nat.le_refl _))).mono ?_
    rintro e w1 ⟨S, rfl, hS, hv, hb, hO⟩
    have HS := Lib.hid hS
    have HV := Lib.hid hv
    clear hS hv
    go_wp2_with fail
    refine (trim_own a _ w.heap.size (k.length + l.length) (k.length + l.length) S (val k * val l) (by omega) (Nat.le_refl _) hw.size hb (by rw [HS.out]; omega) (by rw [← HS.out, List.take_length]; exact HV.out) (bt hw (bo (b0 w) ((Only.mono (ba (b0 _) _)).trans hO) (Nat.le_refl _)))).mono ?_
    rintro e w2 h
    obtain ⟨A', c', l', rfl, hR⟩ := h
    go_wp2_with fail
    go_ret
    exact ⟨A', c', l', rfl, hR⟩
  · have h2i : decide (2 * (l.length : Int) ≤ (k.length : Int) + 1) = false := by simp; omega
    go_enter Tryd.func50, Tryd.ntmps50
    go_wp2_with fail
    refine (byHalves_any w.heap.size (k.length + l.length) B A d c k l _ rfl h48 (by omega) (by omega) (by omega) hd hc HP.out (Blk.new w _ (zer_lt _)) (hk.below (ba (b0 _) _)) (hl.below (ba (b0 _) _)) (hk.off (Nat.le_refl _)) (hl.off (Nat.le_refl _))).mono ?_
    rintro e w1 ⟨S, rfl, hS, hv, hb, hO⟩
    have HS := Lib.hid hS
    have HV := Lib.hid hv
    clear hS hv
    go_wp2_with fail
    refine (trim_own a _ w.heap.size (k.length + l.length) (k.length + l.length) S (val k * val l) (by omega) (Nat.le_refl _) hw.size hb (by rw [HS.out]; omega) (by rw [← HS.out, List.take_length]; exact HV.out) (bt hw (bo (b0 w) ((Only.mono (ba (b0 _) _)).trans hO) (Nat.le_refl _)))).mono ?_
    rintro e w2 h
    obtain ⟨A', c', l', rfl, hR⟩ := h
    go_wp2_with fail
    go_ret
    exact ⟨A', c', l', rfl, hR⟩

theorem prodOk : ∀ M : Nat, M ≤ 2000001 → ProdOk M
  | 0, _ => fun _ _ _ _ _ _ _ _ _ _ _ _ h => by omega
  | M + 1, hM => fun a w A B n c m d l k e1 e2 hlt hc hd hl hk hw => by
    have ih := prodOk M (by omega)
    subst e1 e2
    rcases Nat.lt_or_ge l.length k.length with h | h
    · rcases Nat.lt_or_ge 48 l.length with h48 | h48
      · exact product_step_lt M ih a w A B c d l k (by omega) (by omega) h h48 hc hd hl hk hw
      · exact product_lt a w A B l.length c k.length d l k rfl rfl h (by omega) (by omega) hl hk hw
    · rcases Nat.lt_or_ge 48 k.length with h48 | h48
      · exact product_step_ge M ih a w A B c d l k (by omega) (by omega) h h48 hc hd hl hk hw
      · exact product_le a w A B l.length c k.length d l k rfl rfl h (by omega) (by omega) hl hk hw
theorem product_all (a w : World) (A B : Option Addr) (n c m d : Nat) (l k : List Nat) (hn : l.length = n) (hm : k.length = m) (hnm : n + m ≤ 2000000) (hc : n ≤ c) (hd : m ≤ d) (hl : WS w A l) (hk : WS w B k) (hw : Below a.heap.size a w) :
    Calls Tryd.prog 50 #[.slice A n c, .slice B m d] w (Res a (val l * val k)) :=
  prodOk (n + m + 1) (by omega) a w A B n c m d l k hn hm (by omega) hc hd hl hk hw

set_option maxRecDepth 100000 in
set_option maxHeartbeats 400000 in
theorem Mul_all (a w : World) (na nb : Bool) (A B : Option Addr) (n c m d : Nat) (l k : List Nat) (p q : Bool) (hn : l.length = n) (hm : k.length = m) (hnm : n ≤ 900000) (hmm : m ≤ 900000) (hnc : n ≤ c) (hmd : m ≤ d) (hl : WS w A l) (hk : WS w B k) (hp : isB na l = p) (hq : isB nb k = q) (hw : Below a.heap.size a w) :
    Calls Tryd.prog 18 #[.agg #[.bool na, .slice A n c], .agg #[.bool nb, .slice B m d]] w (IRes a (ite0 (p && q) (zI na l * zI nb k))) := by
  subst hn hm
  have HP := Lib.hid hp
  have HQ := Lib.hid hq
  clear hp hq
  by_cases hpq : (p && q) = true
  · obtain ⟨rfl, rfl⟩ : p = true ∧ q = true := by simpa using hpq
    clear hpq
    rw [show ite0 (true && true) (zI na l * zI nb k) = zI na l * zI nb k from rfl]
    go_enter Tryd.func18, Tryd.ntmps18
    go_wp2_with fail
    refine (both_any na nb A B _ c _ d l k true true _ rfl rfl (by omega) (by omega) (hl.below (ba (ba (ba (b0 _) _) _) _)) (hk.below (ba (ba (ba (b0 _) _) _) _)) HP.out HQ.out).mono ?_
    rintro e w1 ⟨rfl, hb⟩
    have hbx := (Box2.new ((w.alloc (.cells #[.bool na, .slice A l.length c] 24)).alloc (.cells #[.bool nb, .slice B k.length d] 24)) (.bool false) (.slice none 0 0)).below hb
    rw [World.size_alloc, World.size_alloc] at hbx
    have hby := (((Box2.new w (.bool na) (.slice A l.length c)).alloc (.cells #[.bool nb, .slice B k.length d] 24)).alloc (.cells #[.bool false, .slice none 0 0] 24)).below hb
    have hbz := ((Box2.new (w.alloc (.cells #[.bool na, .slice A l.length c] 24)) (.bool nb) (.slice B k.length d)).alloc (.cells #[.bool false, .slice none 0 0] 24)).below hb
    rw [World.size_alloc] at hbz
    have y0 := hby.cell0
    have y1 := hby.cell1
    have y2 := hbz.cell0
    have y3 := hbz.cell1
    have hl1 : WS w1 A l := hl.below (bt (ba (ba (ba (b0 _) _) _) _) hb)
    have hk1 : WS w1 B k := hk.below (bt (ba (ba (ba (b0 _) _) _) _) hb)
    go_wp2_with fail
    go_region_held3 (fun W => W.cell? ⟨w.heap.size, 0, none⟩ = some (.bool na) ∧ W.cell? ⟨w.heap.size, 1, none⟩ = some (.slice A l.length c) ∧ W.cell? ⟨w.heap.size + 1, 0, none⟩ = some (.bool nb) ∧ W.cell? ⟨w.heap.size + 1, 1, none⟩ = some (.slice B k.length d))
      (first | exact ⟨y0, y1, y2, y3⟩ | exact ⟨z0, z1, z2, z3⟩ | exact ⟨v0, v1, v2, v3⟩ | exact ⟨s0, s1, s2, s3⟩ | go_keep)
      (first
        | (go_at_call 50; refine (product_all w1 _ A B l.length c k.length d l k rfl rfl (by omega) hnc hmd (hl1.below (bd (b0 _) _)) (hk1.below (bd (b0 _) _)) (bd (b0 _) _)).mono ?_; rintro e w2 ⟨A1, c1, l1, rfl, hlc1, ho1, ht1, hv1, hb2⟩; have hlen1 : l1.length ≤ l.length + k.length := top_len ht1 (by rw [hv1, BB_add]; exact Nat.mul_lt_mul_of_lt_of_lt (val_lt hl.1) (val_lt hk.1)); have HV1 := Lib.hid hv1; clear hv1; have hbx2 := hbx.below hb2; have z0 := (hby.below hb2).cell0; have z1 := (hby.below hb2).cell1; have z2 := (hbz.below hb2).cell0; have z3 := (hbz.below hb2).cell1)
        | (go_at_call 42; refine (signed_res w1 _ (na != nb) A1 c1 l1 (by omega) hlc1 ?_ ht1 ?_).mono ?_; (first | exact ho1 | exact ho1.below (bd (b0 _) _)); (first | exact hb2 | exact bd hb2 _); rintro e w3 ⟨ng, A3, c3, l3, rfl, hc3, hl3, hB3, hz3, hb3⟩; have HZ3 := Lib.hid hz3; have HB3 := Lib.hid hB3; clear hz3 hB3; have hbx3 := hbx.below hb3; have x0 := hbx3.cell0; have x1 := hbx3.cell1; have f0 := hbx3.free 0; have f1 := hbx3.free 1; have v0 := (hby.below hb3).cell0; have v1 := (hby.below hb3).cell1; have v2 := (hbz.below hb3).cell0; have v3 := (hbz.below hb3).cell1; have hs := box2_far (hby.below hb3) (q := w.heap.size + 1 + 1) (by omega) (.bool ng) (.slice A3 l3.length c3); have ht := box2_far (hbz.below hb3) (q := w.heap.size + 1 + 1) (by omega) (.bool ng) (.slice A3 l3.length c3); have s0 := hs.cell0; have s1 := hs.cell1; have s2 := ht.cell0; have s3 := ht.cell1))
    obtain ⟨k0, k1, k2⟩ := hbx3.back (.bool ng) (.slice A3 l3.length c3)
    go_wp2_with fail
    refine bodyPost_ret (v := .agg #[.bool ng, .slice A3 l3.length c3]) (by simp [results, Tryd.results18, go_sem, k0, k2]) rfl ?_
    refine ires_store hw (bt (ba (ba (ba (b0 _) _) _) _) hb) (by have := hb.size; simp at this; omega) (by omega) hc3 hl3 HB3.out ?_ hb3
    rw [HZ3.out]
    exact zI_mul HV1.out
  · have hf : (p && q) = false := by simpa using hpq
    rw [hf, show ite0 false (zI na l * zI nb k) = 0 from rfl]
    have HF := Lib.hid hf
    clear hpq hf
    go_enter Tryd.func18, Tryd.ntmps18
    go_wp2_with fail
    refine (both_any na nb A B _ c _ d l k p q _ rfl rfl (by omega) (by omega) (hl.below (ba (ba (ba (b0 _) _) _) _)) (hk.below (ba (ba (ba (b0 _) _) _) _)) HP.out HQ.out).mono ?_
    rintro e w1 ⟨rfl, hb⟩
    rw [HF.out]
    have hbx := (Box2.new ((w.alloc (.cells #[.bool na, .slice A l.length c] 24)).alloc (.cells #[.bool nb, .slice B k.length d] 24)) (.bool false) (.slice none 0 0)).below hb
    rw [World.size_alloc, World.size_alloc] at hbx
    have q0 := hbx.cell0
    have q1 := hbx.cell1
    have f0 := hbx.free 0
    have f1 := hbx.free 1
    obtain ⟨k0, k1, k2⟩ := hbx.back (.bool false) (.slice none 0 0)
    go_wp2_with fail
    refine bodyPost_ret (v := .agg #[.bool false, .slice none 0 0]) (by simp [results, Tryd.results18, go_sem, k0, k2]) rfl ?_
    exact ires_zero _ _ (b2 (bt (bt hw (ba (ba (ba (b0 _) _) _) _)) hb) (by have := hw.size; omega) _ _)
end Go.Proofs.YtaaipcjbmdbndaaDoor
