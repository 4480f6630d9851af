/- divide, in general; Div. -/
import Derived.Test.YtaaipcjbmdbndaaDoorNumLong
import Derived.Test.YtaaipcjbmdbndaaDoorNumDivI
import Derived.Test.YtaaipcjbmdbndaaDoorNumBez
namespace Go.Proofs.YtaaipcjbmdbndaaDoor
open Go.RowKit

set_option maxRecDepth 100000 in
set_option maxHeartbeats 1000000 in
theorem divide_one (a w : World) (A B : Option Addr) (c d : Nat) (l k : List Nat) (hl2 : l.length ≤ 400000) (hl3 : 2 < l.length) (hk1 : k.length = 1) (tk : Top k) (hl : WS w A l) (hk : WS w B k) (hw : Below a.heap.size a w) :
    Calls Tryd.prog 54 #[.slice A l.length c, .slice B 1 d] w (DRes a (val l / val k) (val l % val k)) := by
  have hnl : ¬ (l.length : Int) ≤ 2 := by omega
  have hy0 : gd k 0 ≠ 0 := by have := tk (by omega); rwa [hk1] at this
  have hvk : val k = gd k 0 := by rw [val_two (by omega), gd_end (show k.length ≤ 1 by omega)]; omega
  have hy := hk.lt 0
  obtain ⟨bk, ok, rfl, hbk, hck⟩ := hk.at_ (by omega)
  have hc0 := hck 0 (by omega)
  rw [Nat.add_zero] at hc0
  obtain ⟨y, hye⟩ : ∃ y, y = gd k 0 := ⟨_, rfl⟩
  rw [← hye] at hc0 hy hy0 hvk
  rw [hvk]
  have hy1 : 0 < y := by omega
  have HK1 := Lib.hid hk1
  clear hk1 hck hvk hye hk tk
  go_enter Tryd.func54, Tryd.ntmps54
  go_wp2_with fail
  refine (own_any w w A l.length c l rfl (by omega) hl (b0 _)).mono ?_
  rintro e w1 ⟨g, rfl, hg, hb1, hw1⟩
  have hcell := cell_b hc0 hw1
  go_wp2_with fail
  refine (shorten_any g l.length l.length l y w1 (Nat.le_refl _) (by omega) hy hy1 hb1).mono ?_
  rintro e w2 ⟨S, rfl, hS, hv, hb2, hO2⟩
  rw [List.take_length] at hv ⊢
  have hrl : val l % y < 4294967296 := Nat.lt_trans (Nat.mod_lt _ hy1) hy
  rw [List.drop_length, List.append_nil] at hb2
  obtain ⟨r, hr⟩ : ∃ r, r = val l % y := ⟨_, rfl⟩
  rw [← hr] at hrl ⊢
  have HR := Lib.hid hr
  have HV := Lib.hid hv
  have HS := Lib.hid hS
  have hw2 : Below w.heap.size w w2 := bo hw1 hO2 hg
  clear hv hr hS
  go_wp2_with fail
  refine (trim_keep w w2 g l.length l.length S (val l / y) (by omega) (Nat.le_refl _) hg hb2 (by rw [HS.out]; exact Nat.le_refl _) (by rw [List.take_of_length_le (by rw [HS.out]; exact Nat.le_refl _)]; exact HV.out) hw2).mono ?_
  rintro e w5 ⟨⟨A5, c5, l5, rfl, hc5, ho5, ht5, hv5, hb5⟩, rfl⟩
  have HV5 := Lib.hid hv5
  have hrl64 : r < 18446744073709551616 := by omega
  clear hv5
  go_wp2_with fail
  refine (fromSingle_any w2 _ r hrl64 (b0 _)).mono ?_
  rintro e w6 ⟨A6, c6, l6, rfl, hc6, ho6, ht6, hv6, hb6⟩
  have HV6 := Lib.hid hv6
  clear hv6
  go_wp2_with fail
  go_ret2
  exact ⟨A5, c5, l5, A6, c6, l6, rfl, hc5, (ho5.below hb6).mono hw.size, ht5, HV5.out, hc6, ho6.mono (Nat.le_trans hw.size hw2.size), ht6, HV6.out.trans HR.out, bt hw (bt hw2 hb6)⟩

set_option maxRecDepth 100000 in
set_option maxHeartbeats 1000000 in
theorem divide_less (a w : World) (A B : Option Addr) (c d : Nat) (l k : List Nat) (hl2 : l.length ≤ 400000) (hk2 : k.length ≤ 400000) (hn : ¬ (l.length ≤ 2 ∧ k.length ≤ 2)) (hk1 : 1 < k.length) (tl : Top l) (tk : Top k) (hl : WS w A l) (hk : WS w B k) (hlt : val l < val k) (hw : Below a.heap.size a w) :
    Calls Tryd.prog 54 #[.slice A l.length c, .slice B k.length d] w (DRes a (val l / val k) (val l % val k)) := by
  rw [Nat.div_eq_of_lt hlt, Nat.mod_eq_of_lt hlt]
  have HC := Lib.hid (fun W h1 h2 => compare_any A B l.length c k.length d l k W rfl rfl (by omega) (by omega) tl tk h1 h2)
  have hcmp : ((cmpN (val l) (val k) : Int) < 0) = True := by unfold cmpN; rw [if_pos hlt]; simp
  have hk1b : ((k.length : Int) == 1) = false := beq_eq_false_iff_ne.2 (by omega)
  by_cases hl3 : l.length ≤ 2
  · have hl3i : (l.length : Int) ≤ 2 := by omega
    have hk3i : ¬ (k.length : Int) ≤ 2 := by omega
    clear hlt
    go_enter Tryd.func54, Tryd.ntmps54
    go_wp2_with fail
    refine (HC.out _ hl hk).mono ?_
    rintro e w1 ⟨rfl, hb1⟩
    go_wp2_with fail
    refine (own_res w1 w1 A l.length c l rfl (by omega) tl (hl.below hb1) (b0 _)).mono ?_
    rintro e w6 ⟨A6, c6, l6, rfl, hc6, ho6, ht6, hv6, hb6⟩
    have HV6 := Lib.hid hv6
    clear hv6
    go_wp2_with fail
    go_ret2
    exact ⟨none, 0, [], A6, c6, l6, rfl, Nat.le_refl _, fun h => absurd rfl h, top_nil, rfl, hc6, ho6.mono (bt hw hb1).size, ht6, HV6.out, bt (bt hw hb1) hb6⟩
  · have hl3i : ¬ (l.length : Int) ≤ 2 := by omega
    clear hlt
    go_enter Tryd.func54, Tryd.ntmps54
    go_wp2_with fail
    refine (HC.out _ hl hk).mono ?_
    rintro e w1 ⟨rfl, hb1⟩
    go_wp2_with fail
    refine (own_res w1 w1 A l.length c l rfl (by omega) tl (hl.below hb1) (b0 _)).mono ?_
    rintro e w6 ⟨A6, c6, l6, rfl, hc6, ho6, ht6, hv6, hb6⟩
    have HV6 := Lib.hid hv6
    clear hv6
    go_wp2_with fail
    go_ret2
    exact ⟨none, 0, [], A6, c6, l6, rfl, Nat.le_refl _, fun h => absurd rfl h, top_nil, rfl, hc6, ho6.mono (bt hw hb1).size, ht6, HV6.out, bt (bt hw hb1) hb6⟩

set_option maxRecDepth 100000 in
set_option maxHeartbeats 1000000 in
theorem divide_long (a w : World) (A B : Option Addr) (c d m : Nat) (l k : List Nat) (hk : k.length = m + 2) (hl2 : l.length ≤ 400000) (hl3 : 2 < l.length) (tl : Top l) (tk : Top k) (hl : WS w A l) (hkw : WS w B k) (hge : val k ≤ val l) (hw : Below a.heap.size a w) :
    Calls Tryd.prog 54 #[.slice A l.length c, .slice B (m + 2) d] w (DRes a (val l / val k) (val l % val k)) := by
  have hlen : m + 2 ≤ l.length := by
    rw [← hk]
    exact top_len tk (Nat.lt_of_le_of_lt hge (val_lt hl.1))
  have hcc := fun W h1 h2 => compare_any A B l.length c k.length d l k W rfl rfl (by omega) (by omega) tl tk h1 h2
  rw [hk] at hcc
  have HC := Lib.hid hcc
  have hcmp : ((cmpN (val l) (val k) : Int) < 0) = False := by unfold cmpN; rw [if_neg (by omega)]; split <;> simp
  have hk1b : ((m : Int) + 2 == 1) = false := beq_eq_false_iff_ne.2 (by omega)
  have hl3i : ¬ (l.length : Int) ≤ 2 := by omega
  have HL := Lib.hid (fun W hW => divideLong_any a W A B c d m l k hk hl2 hlen tk (hl.below hW) (hkw.below hW) (bt hw hW))
  clear hge hcc hk
  go_enter Tryd.func54, Tryd.ntmps54
  go_wp2_with fail
  refine (HC.out _ hl hkw).mono ?_
  rintro e w1 ⟨rfl, hb1⟩
  go_wp2_with fail
  refine (HL.out _ hb1).mono ?_
  rintro e w6 ⟨A5, c5, l5, A6, c6, l6, rfl, hc5, ho5, ht5, hv5, hc6, ho6, ht6, hv6, hb6⟩
  have HV5 := Lib.hid hv5
  have HV6 := Lib.hid hv6
  clear hv5 hv6
  go_wp2_with fail
  go_ret2
  exact ⟨A5, c5, l5, A6, c6, l6, rfl, hc5, ho5, ht5, HV5.out, hc6, ho6, ht6, HV6.out, hb6⟩

theorem divide_any (a w : World) (A B : Option Addr) (c d : Nat) (l k : List Nat) (hl2 : l.length ≤ 400000) (hk2 : k.length ≤ 400000) (h0 : 0 < k.length) (tl : Top l) (tk : Top k) (hl : WS w A l) (hk : WS w B k) (hw : Below a.heap.size a w) :
    Calls Tryd.prog 54 #[.slice A l.length c, .slice B k.length d] w (DRes a (val l / val k) (val l % val k)) := by
  by_cases hs : l.length ≤ 2 ∧ k.length ≤ 2
  · exact divide_small a w A B l.length c k.length d l k rfl rfl hs.1 hs.2 hl hk (Nat.ne_of_gt (val_pos tk h0)) hw
  · by_cases h1 : k.length = 1
    · have h := divide_one a w A B c d l k hl2 (by omega) h1 tk hl hk hw
      rwa [← h1] at h
    · rcases Nat.lt_or_ge (val l) (val k) with hlt | hge
      · exact divide_less a w A B c d l k hl2 hk2 hs (by omega) tl tk hl hk hlt hw
      · obtain ⟨m, hm⟩ : ∃ m, k.length = m + 2 := ⟨k.length - 2, by omega⟩
        have hlen : k.length ≤ l.length := top_len tk (Nat.lt_of_le_of_lt hge (val_lt hl.1))
        have h := divide_long a w A B c d m l k hm hl2 (by omega) tl tk hl hk hge hw
        rwa [← hm] at h

theorem Div_any (a w : World) (na nb : Bool) (A B : Option Addr) (c d : Nat) (l k : List Nat) (hnm : l.length ≤ 400000) (hmm : k.length ≤ 400000) (hl : WS w A l) (hk : WS w B k) (hp : isB na l = true) (hq : isB nb k = true) (h0 : 0 < k.length) (hw : Below a.heap.size a w) :
    Calls Tryd.prog 24 #[.agg #[.bool na, .slice A l.length c], .agg #[.bool nb, .slice B k.length d]] w (QRes a (zI na l / zI nb k) (zI na l % zI nb k) 0) :=
  Div_ok a w na nb A B l.length c k.length d l k rfl rfl (by omega) (by omega) hl hk hp hq h0 (fun W hW => divide_any W W A B c d l k hnm hmm h0 (isB_top hp) (isB_top hq) (hl.below hW) (hk.below hW) (b0 _)) hw
end Go.Proofs.YtaaipcjbmdbndaaDoor

/- Div by 0, and of integers that are not canonical. -/
namespace Go.Proofs.YtaaipcjbmdbndaaDoor
open Go.RowKit

theorem boxes4 (w : World) (na nb : Bool) (A B : Option Addr) (n c m d : Nat) : ∃ W, W = (((w.alloc (bx na A n c)).alloc (bx nb B m d)).alloc (bx false none 0 0)).alloc (bx false none 0 0) ∧ Below w.heap.size w W ∧
    Box2 W w.heap.size (.bool na) (.slice A n c) ∧ Box2 W (w.heap.size + 1) (.bool nb) (.slice B m d) ∧ Box2 W (w.heap.size + 1 + 1) (.bool false) (.slice none 0 0) ∧ Box2 W (w.heap.size + 1 + 1 + 1) (.bool false) (.slice none 0 0) := by
  refine ⟨_, rfl, ba (ba (ba (ba (b0 _) _) _) _) _, (((Box2.new w _ _).alloc _).alloc _).alloc _, ?_, ?_, ?_⟩
  · have h := ((Box2.new (w.alloc (bx na A n c)) (.bool nb) (.slice B m d)).alloc (bx false none 0 0)).alloc (bx false none 0 0)
    rw [World.size_alloc] at h; exact h
  · have h := (Box2.new ((w.alloc (bx na A n c)).alloc (bx nb B m d)) (.bool false) (.slice none 0 0)).alloc (bx false none 0 0)
    rw [World.size_alloc, World.size_alloc] at h; exact h
  · have h := Box2.new (((w.alloc (bx na A n c)).alloc (bx nb B m d)).alloc (bx false none 0 0)) (.bool false) (.slice none 0 0)
    rw [World.size_alloc, World.size_alloc, World.size_alloc] at h; exact h

/-- A call of Div returned zeros and the error. -/
def DivE (er : Int) (w : World) (e : Ending) (w' : World) : Prop :=
  e = .returned (.tuple #[.agg #[.bool false, .slice none 0 0], .agg #[.bool false, .slice none 0 0], .int .i64 er]) ∧ Below w.heap.size w w'

set_option maxRecDepth 100000 in
set_option maxHeartbeats 400000 in
theorem Div_zero (w : World) (na nb : Bool) (A B : Option Addr) (c d : Nat) (l k : List Nat) (hl2 : l.length ≤ 1000000) (hl : WS w A l) (hk : WS w B k) (hp : isB na l = true) (hq : isB nb k = true) (h0 : k.length = 0) :
    Calls Tryd.prog 24 #[.agg #[.bool na, .slice A l.length c], .agg #[.bool nb, .slice B k.length d]] w (DivE 5 w) := by
  have HP := Lib.hid hp
  have HQ := Lib.hid hq
  have hkz : ((k.length : Int) == 0) = true := by simp [h0]
  have HK := Lib.hid h0
  obtain ⟨W1, hW1, hw1, x0, x1, x2, x3⟩ := boxes4 w na nb A B l.length c k.length d
  clear hp hq h0
  go_enter Tryd.func24, Tryd.ntmps24
  go_wp2_with fail
  rw [← hW1]
  clear hW1
  refine (both_any na nb A B _ c _ d l k true true _ rfl rfl (by omega) (by rw [HK.out]; omega) (hl.below hw1) (hk.below hw1) HP.out HQ.out).mono ?_
  rintro e w1 ⟨rfl, hb⟩
  have hw1' := bt hw1 hb
  have y1 := x1.below hb
  have y2 := x2.below hb
  have y3 := x3.below hb
  have c2 := y1.cell0
  have c3 := y1.cell1
  have f20 := y2.free 0
  have f21 := y2.free 1
  have f30 := y3.free 0
  have f31 := y3.free 1
  have q20 := y2.cell0
  have q21 := y2.cell1
  have q30 := y3.cell0
  have q31 := y3.cell1
  go_wp2_with fail
  have z2 := box2_far (((y2.set0 (.bool false)).set1 (.slice none 0 0))) (show w.heap.size + 1 + 1 ≠ w.heap.size + 1 + 1 + 1 by omega) (.bool false) (.slice none 0 0)
  have z3 := ((box2_far y3 (show w.heap.size + 1 + 1 + 1 ≠ w.heap.size + 1 + 1 by omega) (.bool false) (.slice none 0 0)).set0 (.bool false)).set1 (.slice none 0 0)
  have k20 := z2.cell0
  have k21 := z2.cell1
  have k30 := z3.cell0
  have k31 := z3.cell1
  refine bodyPost_ret (v := .tuple #[.agg #[.bool false, .slice none 0 0], .agg #[.bool false, .slice none 0 0], .int .i64 5]) (by simp [results, Tryd.results24, go_sem, k20, k21, k30, k31]) rfl ?_
  exact ⟨rfl, b2 (b2 hw1' (by omega) _ _) (by omega) _ _⟩

set_option maxRecDepth 100000 in
set_option maxHeartbeats 400000 in
theorem Div_form (w : World) (na nb : Bool) (A B : Option Addr) (c d : Nat) (l k : List Nat) (p q : Bool) (hl2 : l.length ≤ 1000000) (hk2 : k.length ≤ 1000000) (hl : WS w A l) (hk : WS w B k) (hp : isB na l = p) (hq : isB nb k = q) (hpq : (p && q) = false) :
    Calls Tryd.prog 24 #[.agg #[.bool na, .slice A l.length c], .agg #[.bool nb, .slice B k.length d]] w (DivE 3 w) := by
  have HP := Lib.hid hp
  have HQ := Lib.hid hq
  have HF := Lib.hid hpq
  obtain ⟨W1, hW1, hw1, x0, x1, x2, x3⟩ := boxes4 w na nb A B l.length c k.length d
  clear hp hq hpq
  go_enter Tryd.func24, Tryd.ntmps24
  go_wp2_with fail
  rw [← hW1]
  clear hW1
  refine (both_any na nb A B _ c _ d l k p q _ rfl rfl (by omega) (by omega) (hl.below hw1) (hk.below hw1) HP.out HQ.out).mono ?_
  rintro e w1 ⟨rfl, hb⟩
  rw [HF.out]
  have hw1' := bt hw1 hb
  have y2 := x2.below hb
  have y3 := x3.below hb
  have f20 := y2.free 0
  have f21 := y2.free 1
  have f30 := y3.free 0
  have f31 := y3.free 1
  have q20 := y2.cell0
  have q21 := y2.cell1
  have q30 := y3.cell0
  have q31 := y3.cell1
  go_wp2_with fail
  have z2 := box2_far (((y2.set0 (.bool false)).set1 (.slice none 0 0))) (show w.heap.size + 1 + 1 ≠ w.heap.size + 1 + 1 + 1 by omega) (.bool false) (.slice none 0 0)
  have z3 := ((box2_far y3 (show w.heap.size + 1 + 1 + 1 ≠ w.heap.size + 1 + 1 by omega) (.bool false) (.slice none 0 0)).set0 (.bool false)).set1 (.slice none 0 0)
  have k20 := z2.cell0
  have k21 := z2.cell1
  have k30 := z3.cell0
  have k31 := z3.cell1
  refine bodyPost_ret (v := .tuple #[.agg #[.bool false, .slice none 0 0], .agg #[.bool false, .slice none 0 0], .int .i64 3]) (by simp [results, Tryd.results24, go_sem, k20, k21, k30, k31]) rfl ?_
  exact ⟨rfl, b2 (b2 hw1' (by omega) _ _) (by omega) _ _⟩
end Go.Proofs.YtaaipcjbmdbndaaDoor
