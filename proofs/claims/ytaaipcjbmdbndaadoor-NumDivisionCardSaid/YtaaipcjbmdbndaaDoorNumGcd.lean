/- Gcd and inverse, of numbers of at most two words. -/
import Derived.Test.YtaaipcjbmdbndaaDoorNumRun
namespace Go.Proofs.YtaaipcjbmdbndaaDoor
open Go.RowKit

set_option maxRecDepth 100000 in
set_option maxHeartbeats 1000000 in
theorem Gcd_small (a w : World) (na nb : Bool) (A B : Option Addr) (n c m d : Nat) (l k : List Nat) (p q : Bool) (hn : l.length = n) (hm : k.length = m) (hnm : n ≤ 2) (hmm : m ≤ 2) (hl : WS w A l) (hk : WS w B k) (hp : isB na l = p) (hq : isB nb k = q) (hw : Below a.heap.size a w) :
    Calls Tryd.prog 27 #[.agg #[.bool na, .slice A n c], .agg #[.bool nb, .slice B m d]] w (IRes a (ite0 (p && q) (Nat.gcd (val l) (val k) : Nat))) := by
  subst hn hm
  have HP := Lib.hid hp
  have HQ := Lib.hid hq
  clear hp hq
  by_cases hpq : (p && q) = true
  · obtain ⟨rfl, rfl⟩ : p = true ∧ q = true := by simpa using hpq
    clear hpq
    rw [show ite0 (true && true) ((Nat.gcd (val l) (val k) : Nat) : Int) = ((Nat.gcd (val l) (val k) : Nat) : Int) from rfl]
    go_enter Tryd.func27, Tryd.ntmps27
    go_wp2_with fail
    refine (both_any na nb A B _ c _ d l k true true _ rfl rfl (by omega) (by omega) (hl.below (ba (ba (ba (b0 _) _) _) _)) (hk.below (ba (ba (ba (b0 _) _) _) _)) HP.out HQ.out).mono ?_
    rintro e w1 ⟨rfl, hb⟩
    have hbx := (Box2.new ((w.alloc (.cells #[.bool na, .slice A l.length c] 24)).alloc (.cells #[.bool nb, .slice B k.length d] 24)) (.bool false) (.slice none 0 0)).below hb
    rw [World.size_alloc, World.size_alloc] at hbx
    have hby := (((Box2.new w (.bool na) (.slice A l.length c)).alloc (.cells #[.bool nb, .slice B k.length d] 24)).alloc (.cells #[.bool false, .slice none 0 0] 24)).below hb
    have hbz := ((Box2.new (w.alloc (.cells #[.bool na, .slice A l.length c] 24)) (.bool nb) (.slice B k.length d)).alloc (.cells #[.bool false, .slice none 0 0] 24)).below hb
    rw [World.size_alloc] at hbz
    have y0 := hby.cell0
    have y1 := hby.cell1
    have y2 := hbz.cell0
    have y3 := hbz.cell1
    have hl1 : WS w1 A l := hl.below (bt (ba (ba (ba (b0 _) _) _) _) hb)
    have hk1 : WS w1 B k := hk.below (bt (ba (ba (ba (b0 _) _) _) _) hb)
    go_wp2_with fail
    refine (divisor_small w1 A B l.length c k.length d l k rfl rfl hnm hmm (isB_top HP.out) (isB_top HQ.out) hl1 hk1).mono ?_
    rintro e w2 ⟨A1, c1, l1, rfl, hlc1, ho1, ht1, hv1, hb2⟩
    have hlen1 : l1.length ≤ 3 := top_len ht1 (by
      rw [hv1]
      have e1 : val l < BB 2 := Nat.lt_of_lt_of_le (val_lt hl.1) (BB_mono hnm)
      have e2 : val k < BB 2 := Nat.lt_of_lt_of_le (val_lt hk.1) (BB_mono hmm)
      have e3 : BB 2 < BB 3 := by decide
      rcases Nat.eq_zero_or_pos (val l) with h0 | h0
      · rw [h0, Nat.gcd_zero_left]; omega
      · have := Nat.gcd_le_left (val k) h0; omega)
    have HV1 := Lib.hid hv1
    clear hv1
    go_wp2_with fail
    refine (signed_res w1 _ false A1 c1 l1 (by omega) hlc1 ho1 ht1 hb2).mono ?_
    rintro e w3 ⟨ng, A3, c3, l3, rfl, hc3, hl3, hB3, hz3, hb3⟩
    have HZ3 := Lib.hid hz3
    have HB3 := Lib.hid hB3
    clear hz3 hB3
    have hbx3 := hbx.below hb3
    have x0 := hbx3.cell0
    have x1 := hbx3.cell1
    have f0 := hbx3.free 0
    have f1 := hbx3.free 1
    obtain ⟨k0, k1, k2⟩ := hbx3.back (.bool ng) (.slice A3 l3.length c3)
    go_wp2_with fail
    refine bodyPost_ret (v := .agg #[.bool ng, .slice A3 l3.length c3]) (by simp [results, Tryd.results27, go_sem, k0, k2]) rfl ?_
    refine ires_store hw (bt (ba (ba (ba (b0 _) _) _) _) hb) (by have := hb.size; simp at this; omega) (by omega) hc3 hl3 HB3.out ?_ hb3
    rw [HZ3.out]
    unfold zI
    rw [HV1.out]
    simp
  · have hf : (p && q) = false := by simpa using hpq
    rw [hf, show ite0 false ((Nat.gcd (val l) (val k) : Nat) : Int) = 0 from rfl]
    have HF := Lib.hid hf
    clear hpq hf
    go_enter Tryd.func27, Tryd.ntmps27
    go_wp2_with fail
    refine (both_any na nb A B _ c _ d l k p q _ rfl rfl (by omega) (by omega) (hl.below (ba (ba (ba (b0 _) _) _) _)) (hk.below (ba (ba (ba (b0 _) _) _) _)) HP.out HQ.out).mono ?_
    rintro e w1 ⟨rfl, hb⟩
    rw [HF.out]
    have hbx := (Box2.new ((w.alloc (.cells #[.bool na, .slice A l.length c] 24)).alloc (.cells #[.bool nb, .slice B k.length d] 24)) (.bool false) (.slice none 0 0)).below hb
    rw [World.size_alloc, World.size_alloc] at hbx
    have q0 := hbx.cell0
    have q1 := hbx.cell1
    have f0 := hbx.free 0
    have f1 := hbx.free 1
    obtain ⟨k0, k1, k2⟩ := hbx.back (.bool false) (.slice none 0 0)
    go_wp2_with fail
    refine bodyPost_ret (v := .agg #[.bool false, .slice none 0 0]) (by simp [results, Tryd.results27, go_sem, k0, k2]) rfl ?_
    exact ires_zero _ _ (b2 (bt (bt hw (ba (ba (ba (b0 _) _) _) _)) hb) (by have := hw.size; omega) _ _)
end Go.Proofs.YtaaipcjbmdbndaaDoor
