/- Integers: add, Add, Sub. -/
import Derived.Test.YtaaipcjbmdbndaaDoorNumInt3
namespace Go.Proofs.YtaaipcjbmdbndaaDoor
open Go.RowKit

theorem len_sum {l1 l k : List Nat} (h1 : Top l1) (hl : ∀ x ∈ l, x < 4294967296) (hk : ∀ x ∈ k, x < 4294967296) (hv : val l1 = val l + val k) : l1.length ≤ l.length + k.length + 1 := by
  refine top_len h1 ?_
  rw [hv]
  have a1 := val_lt hl
  have a2 := val_lt hk
  have a3 := BB_mono (show l.length ≤ l.length + k.length from by omega)
  have a4 := BB_mono (show k.length ≤ l.length + k.length from by omega)
  rw [BB_succ]
  have a5 := BB_pos (l.length + k.length)
  omega
theorem len_le {l1 l : List Nat} (h1 : Top l1) (hl : ∀ x ∈ l, x < 4294967296) (hv : val l1 ≤ val l) : l1.length ≤ l.length :=
  top_len h1 (Nat.lt_of_le_of_lt hv (val_lt hl))

set_option maxRecDepth 100000 in
set_option maxHeartbeats 400000 in
theorem add_same (a w : World) (na : Bool) (A B : Option Addr) (n c m d : Nat) (l k : List Nat) (hn : l.length = n) (hm : k.length = m) (hnm : n ≤ 1000000) (hmm : m ≤ 1000000) (hl : WS w A l) (hk : WS w B k) (hw : Below a.heap.size a w) :
    Calls Tryd.prog 49 #[.bool na, .slice A n c, .bool na, .slice B m d] w (IRes a (zI na l + zI na k)) := by
  subst hn hm
  have hbe : (na == na) = true := by cases na <;> rfl
  go_enter Tryd.func49, Tryd.ntmps49
  go_wp2_with fail
  refine (sum_any _ _ A B l.length c k.length d l k rfl rfl (by omega) (by omega) (hl.below (ba (b0 _) _)) (hk.below (ba (b0 _) _)) (b0 _)).mono ?_
  rintro e w2 ⟨A1, c1, l1, rfl, hlc1, ho1, ht1, hv1, hb2⟩
  have hlen1 := len_sum ht1 hl.1 hk.1 hv1
  have HV1 := Lib.hid hv1
  clear hv1
  go_wp2_with fail
  refine (signed_res _ _ na A1 c1 l1 (by omega) hlc1 ho1 ht1 hb2).mono ?_
  rintro e w3 ⟨ng, A3, c3, l3, rfl, hc3, hl3, hB3, hz3, hb3⟩
  have HZ3 := Lib.hid hz3
  have HB3 := Lib.hid hB3
  clear hz3 hB3
  have hbx3 := (Box2.new w (.bool false) (.slice none 0 0)).below hb3
  have x0 := hbx3.cell0
  have x1 := hbx3.cell1
  have f0 := hbx3.free 0
  have f1 := hbx3.free 1
  obtain ⟨k0, k1, k2⟩ := hbx3.back (.bool ng) (.slice A3 l3.length c3)
  go_wp2_with fail
  refine bodyPost_ret (v := .agg #[.bool ng, .slice A3 l3.length c3]) (by simp [results, Tryd.results49, go_sem, k0, k2]) rfl ?_
  refine ires_store hw (ba (b0 _) _) (by simp) (Nat.le_refl _) hc3 hl3 HB3.out ?_ hb3
  rw [HZ3.out]
  unfold zI
  rw [HV1.out]
  cases na <;> simp <;> omega

set_option maxRecDepth 100000 in
set_option maxHeartbeats 400000 in
theorem add_other (a w : World) (na : Bool) (A B : Option Addr) (n c m d : Nat) (l k : List Nat) (hn : l.length = n) (hm : k.length = m) (hnm : n ≤ 1000000) (hmm : m ≤ 1000000) (hl : WS w A l) (hk : WS w B k) (tl : Top l) (tk : Top k) (hw : Below a.heap.size a w) :
    Calls Tryd.prog 49 #[.bool na, .slice A n c, .bool (!na), .slice B m d] w (IRes a (zI na l + zI (!na) k)) := by
  subst hn hm
  have hbe : (na == !na) = false := by cases na <;> rfl
  have HK := hk.below (ba (b0 w) (.cells #[.bool false, .slice none 0 0] 24))
  have HL := hl.below (ba (b0 w) (.cells #[.bool false, .slice none 0 0] 24))
  by_cases hlt : val l < val k
  · have hcp : cmpN (val l) (val k) = -1 := by unfold cmpN; rw [if_pos hlt]
    have hkl : l.length ≤ k.length := len_le tl hk.1 (by omega)
    have HC := Lib.hid hcp
    have HLT := Lib.hid hlt
    clear hcp hlt
    go_enter Tryd.func49, Tryd.ntmps49
    go_wp2_with fail
    refine (compare_any A B l.length c k.length d l k _ rfl rfl (by omega) (by omega) tl tk HL HK).mono ?_
    rintro e w1 ⟨rfl, hb1⟩
    rw [HC.out]
    go_wp2_with fail
    refine (difference_any _ _ B A k.length d l.length c k l rfl rfl hkl (by omega) (Nat.le_of_lt HLT.out) (HK.below hb1) (HL.below hb1) hb1).mono ?_
    rintro e w2 ⟨A1, c1, l1, rfl, hlc1, ho1, ht1, hv1, hb2⟩
    have hlen1 := len_le ht1 hk.1 (by rw [hv1]; omega)
    have HV1 := Lib.hid hv1
    clear hv1
    go_wp2_with fail
    refine (signed_res _ _ (!na) A1 c1 l1 (by omega) hlc1 ho1 ht1 hb2).mono ?_
    rintro e w3 ⟨ng, A3, c3, l3, rfl, hc3, hl3, hB3, hz3, hb3⟩
    have HZ3 := Lib.hid hz3
    have HB3 := Lib.hid hB3
    clear hz3 hB3
    have hbx3 := (Box2.new w (.bool false) (.slice none 0 0)).below hb3
    have x0 := hbx3.cell0
    have x1 := hbx3.cell1
    have f0 := hbx3.free 0
    have f1 := hbx3.free 1
    obtain ⟨k0, k1, k2⟩ := hbx3.back (.bool ng) (.slice A3 l3.length c3)
    go_wp2_with fail
    refine bodyPost_ret (v := .agg #[.bool ng, .slice A3 l3.length c3]) (by simp [results, Tryd.results49, go_sem, k0, k2]) rfl ?_
    refine ires_store hw (ba (b0 _) _) (by simp) (Nat.le_refl _) hc3 hl3 HB3.out ?_ hb3
    rw [HZ3.out]
    unfold zI
    rw [HV1.out]
    have := HLT.out
    cases na <;> simp <;> omega
  · have hcp : cmpN (val l) (val k) = 0 ∨ cmpN (val l) (val k) = 1 := by
      unfold cmpN
      rw [if_neg hlt]
      split
      · exact .inl rfl
      · exact .inr rfl
    have hkl : k.length ≤ l.length := len_le tk hl.1 (by omega)
    obtain ⟨q, hq0, hq⟩ : ∃ q : Int, 0 ≤ q ∧ cmpN (val l) (val k) = q := by
      rcases hcp with h | h
      · exact ⟨0, by omega, h⟩
      · exact ⟨1, by omega, h⟩
    have HC := Lib.hid hq
    have HLT := Lib.hid hlt
    clear hcp hlt hq
    go_enter Tryd.func49, Tryd.ntmps49
    go_wp2_with fail
    refine (compare_any A B l.length c k.length d l k _ rfl rfl (by omega) (by omega) tl tk HL HK).mono ?_
    rintro e w1 ⟨rfl, hb1⟩
    rw [HC.out]
    go_wp2_with fail
    refine (difference_any _ _ A B l.length c k.length d l k rfl rfl hkl (by omega) (Nat.le_of_not_lt HLT.out) (HL.below hb1) (HK.below hb1) hb1).mono ?_
    rintro e w2 ⟨A1, c1, l1, rfl, hlc1, ho1, ht1, hv1, hb2⟩
    have hlen1 := len_le ht1 hl.1 (by rw [hv1]; omega)
    have HV1 := Lib.hid hv1
    clear hv1
    go_wp2_with fail
    refine (signed_res _ _ na A1 c1 l1 (by omega) hlc1 ho1 ht1 hb2).mono ?_
    rintro e w3 ⟨ng, A3, c3, l3, rfl, hc3, hl3, hB3, hz3, hb3⟩
    have HZ3 := Lib.hid hz3
    have HB3 := Lib.hid hB3
    clear hz3 hB3
    have hbx3 := (Box2.new w (.bool false) (.slice none 0 0)).below hb3
    have x0 := hbx3.cell0
    have x1 := hbx3.cell1
    have f0 := hbx3.free 0
    have f1 := hbx3.free 1
    obtain ⟨k0, k1, k2⟩ := hbx3.back (.bool ng) (.slice A3 l3.length c3)
    go_wp2_with fail
    refine bodyPost_ret (v := .agg #[.bool ng, .slice A3 l3.length c3]) (by simp [results, Tryd.results49, go_sem, k0, k2]) rfl ?_
    refine ires_store hw (ba (b0 _) _) (by simp) (Nat.le_refl _) hc3 hl3 HB3.out ?_ hb3
    rw [HZ3.out]
    unfold zI
    rw [HV1.out]
    have := HLT.out
    cases na <;> simp <;> omega

theorem add_any (a w : World) (na nb : Bool) (A B : Option Addr) (n c m d : Nat) (l k : List Nat) (hn : l.length = n) (hm : k.length = m) (hnm : n ≤ 1000000) (hmm : m ≤ 1000000) (hl : WS w A l) (hk : WS w B k) (tl : Top l) (tk : Top k) (hw : Below a.heap.size a w) :
    Calls Tryd.prog 49 #[.bool na, .slice A n c, .bool nb, .slice B m d] w (IRes a (zI na l + zI nb k)) := by
  by_cases h : nb = na
  · subst h; exact add_same a w nb A B n c m d l k hn hm hnm hmm hl hk hw
  · obtain rfl : nb = !na := by cases na <;> cases nb <;> simp_all
    exact add_other a w na A B n c m d l k hn hm hnm hmm hl hk tl tk hw

set_option maxRecDepth 100000 in
set_option maxHeartbeats 400000 in
theorem Add_any (a w : World) (na nb : Bool) (A B : Option Addr) (n c m d : Nat) (l k : List Nat) (p q : Bool) (hn : l.length = n) (hm : k.length = m) (hnm : n ≤ 1000000) (hmm : m ≤ 1000000) (hl : WS w A l) (hk : WS w B k) (hp : isB na l = p) (hq : isB nb k = q) (hw : Below a.heap.size a w) :
    Calls Tryd.prog 17 #[.agg #[.bool na, .slice A n c], .agg #[.bool nb, .slice B m d]] w (IRes a (ite0 (p && q) (zI na l + zI nb k))) := by
  subst hn hm
  have HP := Lib.hid hp
  have HQ := Lib.hid hq
  clear hp hq
  by_cases hpq : (p && q) = true
  · obtain ⟨rfl, rfl⟩ : p = true ∧ q = true := by simpa using hpq
    clear hpq
    rw [show ite0 (true && true) (zI na l + zI nb k) = zI na l + zI nb k from rfl]
    go_enter Tryd.func17, Tryd.ntmps17
    go_wp2_with fail
    refine (both_any na nb A B _ c _ d l k true true _ rfl rfl (by omega) (by omega) (hl.below (ba (ba (ba (b0 _) _) _) _)) (hk.below (ba (ba (ba (b0 _) _) _) _)) HP.out HQ.out).mono ?_
    rintro e w1 ⟨rfl, hb⟩
    have hbx := (Box2.new ((w.alloc (.cells #[.bool na, .slice A l.length c] 24)).alloc (.cells #[.bool nb, .slice B k.length d] 24)) (.bool false) (.slice none 0 0)).below hb
    rw [World.size_alloc, World.size_alloc] at hbx
    have hby := (((Box2.new w (.bool na) (.slice A l.length c)).alloc (.cells #[.bool nb, .slice B k.length d] 24)).alloc (.cells #[.bool false, .slice none 0 0] 24)).below hb
    have hbz := ((Box2.new (w.alloc (.cells #[.bool na, .slice A l.length c] 24)) (.bool nb) (.slice B k.length d)).alloc (.cells #[.bool false, .slice none 0 0] 24)).below hb
    rw [World.size_alloc] at hbz
    have y0 := hby.cell0
    have y1 := hby.cell1
    have y2 := hbz.cell0
    have y3 := hbz.cell1
    have hl1 : WS w1 A l := hl.below (bt (ba (ba (ba (b0 _) _) _) _) hb)
    have hk1 : WS w1 B k := hk.below (bt (ba (ba (ba (b0 _) _) _) _) hb)
    go_wp2_with fail
    refine (add_any w1 _ na nb A B l.length c k.length d l k rfl rfl hnm hmm hl1 hk1 (isB_top HP.out) (isB_top HQ.out) (b0 _)).mono ?_
    rintro e w3 ⟨ng, A3, c3, l3, rfl, hc3, hl3, hB3, hz3, hb3⟩
    have HZ3 := Lib.hid hz3
    have HB3 := Lib.hid hB3
    clear hz3 hB3
    have hbx3 := hbx.below hb3
    have x0 := hbx3.cell0
    have x1 := hbx3.cell1
    have f0 := hbx3.free 0
    have f1 := hbx3.free 1
    obtain ⟨k0, k1, k2⟩ := hbx3.back (.bool ng) (.slice A3 l3.length c3)
    go_wp2_with fail
    refine bodyPost_ret (v := .agg #[.bool ng, .slice A3 l3.length c3]) (by simp [results, Tryd.results17, go_sem, k0, k2]) rfl ?_
    exact ires_store hw (bt (ba (ba (ba (b0 _) _) _) _) hb) (by have := hb.size; simp at this; omega) (by omega) hc3 hl3 HB3.out HZ3.out hb3
  · have hf : (p && q) = false := by simpa using hpq
    rw [hf, show ite0 false (zI na l + zI nb k) = 0 from rfl]
    have HF := Lib.hid hf
    clear hpq hf
    go_enter Tryd.func17, Tryd.ntmps17
    go_wp2_with fail
    refine (both_any na nb A B _ c _ d l k p q _ rfl rfl (by omega) (by omega) (hl.below (ba (ba (ba (b0 _) _) _) _)) (hk.below (ba (ba (ba (b0 _) _) _) _)) HP.out HQ.out).mono ?_
    rintro e w1 ⟨rfl, hb⟩
    rw [HF.out]
    have hbx := (Box2.new ((w.alloc (.cells #[.bool na, .slice A l.length c] 24)).alloc (.cells #[.bool nb, .slice B k.length d] 24)) (.bool false) (.slice none 0 0)).below hb
    rw [World.size_alloc, World.size_alloc] at hbx
    have q0 := hbx.cell0
    have q1 := hbx.cell1
    have f0 := hbx.free 0
    have f1 := hbx.free 1
    obtain ⟨k0, k1, k2⟩ := hbx.back (.bool false) (.slice none 0 0)
    go_wp2_with fail
    refine bodyPost_ret (v := .agg #[.bool false, .slice none 0 0]) (by simp [results, Tryd.results17, go_sem, k0, k2]) rfl ?_
    exact ires_zero _ _ (b2 (bt (bt hw (ba (ba (ba (b0 _) _) _) _)) hb) (by have := hw.size; omega) _ _)

set_option maxRecDepth 100000 in
set_option maxHeartbeats 400000 in
theorem Sub_any (a w : World) (na nb : Bool) (A B : Option Addr) (n c m d : Nat) (l k : List Nat) (p q : Bool) (hn : l.length = n) (hm : k.length = m) (hnm : n ≤ 1000000) (hmm : m ≤ 1000000) (hl : WS w A l) (hk : WS w B k) (hp : isB na l = p) (hq : isB nb k = q) (hw : Below a.heap.size a w) :
    Calls Tryd.prog 20 #[.agg #[.bool na, .slice A n c], .agg #[.bool nb, .slice B m d]] w (IRes a (ite0 (p && q) (zI na l - zI nb k))) := by
  subst hn hm
  have HP := Lib.hid hp
  have HQ := Lib.hid hq
  clear hp hq
  by_cases hpq : (p && q) = true
  · obtain ⟨rfl, rfl⟩ : p = true ∧ q = true := by simpa using hpq
    clear hpq
    rw [show ite0 (true && true) (zI na l - zI nb k) = zI na l - zI nb k from rfl]
    go_enter Tryd.func20, Tryd.ntmps20
    go_wp2_with fail
    refine (both_any na nb A B _ c _ d l k true true _ rfl rfl (by omega) (by omega) (hl.below (ba (ba (ba (b0 _) _) _) _)) (hk.below (ba (ba (ba (b0 _) _) _) _)) HP.out HQ.out).mono ?_
    rintro e w1 ⟨rfl, hb⟩
    have hbx := (Box2.new ((w.alloc (.cells #[.bool na, .slice A l.length c] 24)).alloc (.cells #[.bool nb, .slice B k.length d] 24)) (.bool false) (.slice none 0 0)).below hb
    rw [World.size_alloc, World.size_alloc] at hbx
    have hby := (((Box2.new w (.bool na) (.slice A l.length c)).alloc (.cells #[.bool nb, .slice B k.length d] 24)).alloc (.cells #[.bool false, .slice none 0 0] 24)).below hb
    have hbz := ((Box2.new (w.alloc (.cells #[.bool na, .slice A l.length c] 24)) (.bool nb) (.slice B k.length d)).alloc (.cells #[.bool false, .slice none 0 0] 24)).below hb
    rw [World.size_alloc] at hbz
    have y0 := hby.cell0
    have y1 := hby.cell1
    have y2 := hbz.cell0
    have y3 := hbz.cell1
    have hl1 : WS w1 A l := hl.below (bt (ba (ba (ba (b0 _) _) _) _) hb)
    have hk1 : WS w1 B k := hk.below (bt (ba (ba (ba (b0 _) _) _) _) hb)
    go_wp2_with fail
    refine (add_any w1 _ na (!nb) A B l.length c k.length d l k rfl rfl hnm hmm hl1 hk1 (isB_top HP.out) (isB_top HQ.out) (b0 _)).mono ?_
    rintro e w3 ⟨ng, A3, c3, l3, rfl, hc3, hl3, hB3, hz3, hb3⟩
    have HZ3 := Lib.hid hz3
    have HB3 := Lib.hid hB3
    clear hz3 hB3
    have hbx3 := hbx.below hb3
    have x0 := hbx3.cell0
    have x1 := hbx3.cell1
    have f0 := hbx3.free 0
    have f1 := hbx3.free 1
    obtain ⟨k0, k1, k2⟩ := hbx3.back (.bool ng) (.slice A3 l3.length c3)
    go_wp2_with fail
    refine bodyPost_ret (v := .agg #[.bool ng, .slice A3 l3.length c3]) (by simp [results, Tryd.results20, go_sem, k0, k2]) rfl ?_
    exact ires_store hw (bt (ba (ba (ba (b0 _) _) _) _) hb) (by have := hb.size; simp at this; omega) (by omega) hc3 hl3 HB3.out (by rw [HZ3.out]; unfold zI; cases nb <;> simp <;> omega) hb3
  · have hf : (p && q) = false := by simpa using hpq
    rw [hf, show ite0 false (zI na l - zI nb k) = 0 from rfl]
    have HF := Lib.hid hf
    clear hpq hf
    go_enter Tryd.func20, Tryd.ntmps20
    go_wp2_with fail
    refine (both_any na nb A B _ c _ d l k p q _ rfl rfl (by omega) (by omega) (hl.below (ba (ba (ba (b0 _) _) _) _)) (hk.below (ba (ba (ba (b0 _) _) _) _)) HP.out HQ.out).mono ?_
    rintro e w1 ⟨rfl, hb⟩
    rw [HF.out]
    have hbx := (Box2.new ((w.alloc (.cells #[.bool na, .slice A l.length c] 24)).alloc (.cells #[.bool nb, .slice B k.length d] 24)) (.bool false) (.slice none 0 0)).below hb
    rw [World.size_alloc, World.size_alloc] at hbx
    have q0 := hbx.cell0
    have q1 := hbx.cell1
    have f0 := hbx.free 0
    have f1 := hbx.free 1
    obtain ⟨k0, k1, k2⟩ := hbx.back (.bool false) (.slice none 0 0)
    go_wp2_with fail
    refine bodyPost_ret (v := .agg #[.bool false, .slice none 0 0]) (by simp [results, Tryd.results20, go_sem, k0, k2]) rfl ?_
    exact ires_zero _ _ (b2 (bt (bt hw (ba (ba (ba (b0 _) _) _) _)) hb) (by have := hw.size; omega) _ _)
end Go.Proofs.YtaaipcjbmdbndaaDoor
