/- inverse, of numbers of at most two words. -/
import Derived.Test.YtaaipcjbmdbndaaDoorNumRun
import Derived.Test.YtaaipcjbmdbndaaDoorNumDiv2
import Derived.BigQuiet
namespace Go.Proofs.YtaaipcjbmdbndaaDoor
open Go.RowKit

/-- A call returned the greatest common divisor and the least factor. -/
def InvP (a : World) (neg : Bool) (x k : Nat) (e : Ending) (w' : World) : Prop := ∃ U, InvU neg x k U ∧ DRes a (Nat.gcd x k) U e w'

theorem Box2.only {W W' : World} {p g : Nat} {u v : Value} (h : Box2 W p u v) (hb : Only g W W') (hne : p ≠ g) : Box2 W' p u v := (hb.block p h.lt (fun e => hne (by injection e))).trans h

set_option maxRecDepth 100000 in
set_option maxHeartbeats 1000000 in
theorem inverse_small (w : World) (neg : Bool) (A B : Option Addr) (n c m d : Nat) (l k : List Nat) (hn : l.length = n) (hm : k.length = m) (hn2 : n ≤ 2) (hm2 : m ≤ 2) (tk : Top k) (hl : WS w A l) (hk : WS w B k) (h0 : val k ≠ 0) :
    Calls Tryd.prog 57 #[.agg #[.bool neg, .slice A n c], .slice B m d] w (InvP w neg (val l) (val k)) := by
  subst hn hm
  go_enter Tryd.func57, Tryd.ntmps57
  go_wp2_with fail
  obtain ⟨W1, hW1⟩ : ∃ W, W = w.alloc (.cells #[.bool neg, .slice A l.length c] 24) := ⟨_, rfl⟩
  have hbx : Box2 W1 w.heap.size (.bool neg) (.slice A l.length c) := by rw [hW1]; exact Box2.new _ _ _
  have hw1 : Below w.heap.size w W1 := by rw [hW1]; exact ba (b0 w) _
  rw [← hW1]
  clear hW1
  refine (divide_small W1 W1 A B l.length c k.length d l k rfl rfl hn2 hm2 (hl.below hw1) (hk.below hw1) h0 (b0 _)).mono ?_
  rintro e w2 ⟨A2, c2, l2, B2, d2, k2, rfl, hc2, ho2, ht2, hv2, hd2, hp2, hu2, hz2, hb2⟩
  have HV2 := Lib.hid hv2
  have HZ2 := Lib.hid hz2
  clear hv2 hz2
  go_wp2_with fail
  refine (own_any w2 w2 B k.length d k rfl (by omega) ((hk.below hw1).below hb2) (b0 _)).mono ?_
  rintro e w3 ⟨g1, rfl, hg1, hk1, hb3⟩
  go_wp2_with fail
  have hr0 : 0 < val k := Nat.pos_of_ne_zero h0
  have hmod : val k2 < val k := by rw [HZ2.out]; exact Nat.mod_lt _ hr0
  have hkl : val k < BB 2 := Nat.lt_of_lt_of_le (val_lt hk.1) (BB_mono hm2)
  have hk2l : k2.length ≤ 2 := top_len hu2 (by omega)
  obtain ⟨W5, hW5⟩ : ∃ W, W = w3.alloc (.cells #[.int .u32 1] 58) := ⟨_, rfl⟩
  have hone : Blk W5 w3.heap.size [1] := by rw [hW5]; exact Blk.new w3 [1] (by simp)
  have h35 : Below w3.heap.size w3 W5 := by rw [hW5]; exact ba (b0 _) _
  have hsz : w3.heap.size + 1 = W5.heap.size := by rw [hW5]; simp
  rw [← hW5, hsz]
  clear hW5
  have hs1 := hw1.size
  have hs2 := hb2.size
  have hs3 := hb3.size
  have hs35 := h35.size
  have hw5 : Below w.heap.size w W5 := bt (bt (bt hw1 hb2) hb3) h35
  have hbx5 := ((hbx.below hb2).below hb3).below h35
  have hall := ba (b0 W5) (.cells #[.slice (some ⟨g1, 0, none⟩) k.length k.length, .slice B2 k2.length d2, .slice none 0 0, .slice (some ⟨w3.heap.size, 0, none⟩) 1 1, .bool false] 90)
  refine (run_small w _ W5.heap.size _ B2 none _ k.length d2 0 1 k k2 [] [1] false hm2 hk2l (by simp) (by simp) (Nat.le_of_lt hmod) (fun _ => hr0) tk top_nil (fun _ => by simp [gd]) (Nat.le_refl _) (Nat.le_refl _) (Nat.le_refl _) (euc_new _ _)
    (own_of_blk (by omega) ((hk1.below h35).below hall)) (((hp2.below hb3).below h35).below hall).ws (fun h => absurd rfl h) (own_of_blk (a := w) (by omega) (hone.below hall)) (bt hw5 hall).size).mono ?_
  rintro e w6 ⟨g, p, q, u, v, odd, A', B', X', Y', ca', cb', cx', cy', la', lx', ly', rfl, hTR, hca', oa', ta', va', hs6, -, hcof, hO⟩
  obtain ⟨hcx', ox', tx', vx', hcy', oy', ty', vy'⟩ := hcof (by simp)
  rw [HZ2.out] at hTR
  obtain ⟨hg, hU⟩ := inv_of_tr (neg := neg) hr0 hTR
  have hw6 : Below w.heap.size w w6 := bo (bt hw5 hall) hO hw5.size
  have hbx6 := ((hbx5.below hall).only hO (by have := hbx5.lt; omega))
  have xq : val lx' = q := by rw [vx']; simp [val]
  have yv : val ly' = v := by rw [vy']; simp [val]
  have hTqv : q ≤ v := hTR.2.2.2.1
  have hvk : v ≤ val k := by
    have h := hTR.le' (by have := hTR.gcd; have := Nat.gcd_pos_of_pos_left (val l % val k) hr0; omega)
    exact h.2
  have hU' := Lib.hid hU
  have HX := Lib.hid xq
  have HY := Lib.hid yv
  have HG := Lib.hid (va'.trans hg)
  have z0 := hs6.at_ 0
  have z2 := hs6.at_ 2
  have z3 := hs6.at_ 3
  have z4 := hs6.at_ 4
  have x0 := hbx6.cell0
  simp at z0 z2 z3 z4
  clear hU xq yv va' hg hcof vx' vy' hsz hone h35 hbx5 hkl hmod hs1 hs2 hs3 hs35 hr0 h0
  by_cases hx0 : lx' = []
  · subst hx0
    have hq0 : q = 0 := HX.out.symm
    simp only [List.length_nil] at z2
    go_wp2_with fail
    go_quiet (fail)
    go_wp2_with fail
    go_returns
    refine ⟨_, hU'.out, A', ca', la', X', cx', [], rfl, hca', oa'.below (bd (b0 _) _), ta', HG.out, hcx', fun h => absurd rfl h, top_nil, ?_, bd hw6 _⟩
    rw [if_neg (by omega), hq0]; rfl
  · have hxl : (0 : Int) < (lx'.length : Int) := by have := List.length_pos_iff.2 hx0; omega
    by_cases hon : odd = neg
    · have hon' : (odd == neg) = true := by simpa using hon
      have hvl : v < BB 2 := Nat.lt_of_le_of_lt hvk (Nat.lt_of_lt_of_le (val_lt hk.1) (BB_mono hm2))
      have hyl : ly'.length ≤ 2 := top_len ty' (by rw [HY.out]; exact hvl)
      have hxyl : lx'.length ≤ ly'.length := top_len tx' (by rw [HX.out]; have := val_lt oy'.ws.1; rw [HY.out] at this; omega)
      clear hvl
      go_wp2_with fail
      go_region_held3 (fun W => W.cell? ⟨W5.heap.size, 0, none⟩ = some (.slice A' la'.length ca') ∧ W.cell? ⟨W5.heap.size, 2, none⟩ = some (.slice X' lx'.length cx') ∧ W.cell? ⟨W5.heap.size, 3, none⟩ = some (.slice Y' ly'.length cy'))
        (first | exact ⟨z0, z2, z3⟩ | exact ⟨v0, v2, v3⟩ | go_keep)
        (first
          | (go_at_call 56; refine (difference_any w6 _ Y' X' ly'.length cy' lx'.length cx' ly' lx' rfl rfl hxyl (by omega) (by rw [HX.out, HY.out]; exact hTqv) (oy'.ws.below (bd (b0 _) _)) (ox'.ws.below (bd (b0 _) _)) (bd (b0 _) _)).mono ?_; rintro e w7 ⟨A7, c7, l7, rfl, hc7, ho7, ht7, hv7, hb7⟩; have HV7 := Lib.hid hv7; clear hv7; have hs7 := hs6.below hb7; have v0 := hs7.at_ 0; have v2 := hs7.at_ 2; have v3 := hs7.at_ 3; simp at v0 v2 v3))
      go_wp2_with fail
      go_returns
      refine ⟨_, hU'.out, A', ca', la', A7, c7, l7, rfl, hca', oa'.below hb7, ta', HG.out, hc7, ho7.mono hw6.size, ht7, ?_, bt hw6 hb7⟩
      have hq0 : 0 < q := by rw [← HX.out]; exact val_pos tx' (List.length_pos_iff.2 hx0)
      rw [if_pos ⟨hq0, hon⟩, HV7.out, HX.out, HY.out]
    · have hon' : (odd == neg) = false := by simpa using hon
      go_wp2_with fail
      go_quiet (fail)
      go_wp2_with fail
      go_returns
      refine ⟨_, hU'.out, A', ca', la', X', cx', lx', rfl, hca', oa'.below (bd (b0 _) _), ta', HG.out, hcx', ox'.below (bd (b0 _) _), tx', ?_, bd hw6 _⟩
      rw [if_neg (fun h => hon h.2), HX.out]
end Go.Proofs.YtaaipcjbmdbndaaDoor
