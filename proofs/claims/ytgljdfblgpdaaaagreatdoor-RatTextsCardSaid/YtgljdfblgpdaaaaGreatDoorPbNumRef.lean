import Derived.Deep.AppendLies
import Derived.Test.YtgljdfblgpdaaaaGreatDoorPbNumInt
set_option linter.unusedSimpArgs false
set_option linter.unusedVariables false
set_option maxRecDepth 100000
set_option maxHeartbeats 4000000
namespace Go.Proofs.YtgljdfblgpdaaaaGreatDoor
open Go.RowKit
variable {W w : World} {g n p : Nat} {l : List Nat} {u v : Value}
theorem wrap_neg (x : Nat) (h0 : 0 < x) (hx : x ≤ 9223372036854775808) : IntKind.u64.wrap (-(x : Int)) = 18446744073709551616 - (x : Int) := by
 simp [IntKind.wrap, IntKind.signed, IntKind.bits]
 omega
theorem wrap_neg2 (x : Nat) (h0 : 0 < x) (hx : x ≤ 9223372036854775808) : IntKind.u64.wrap (-(18446744073709551616 - (x : Int))) = (x : Int) := by
 simp [IntKind.wrap, IntKind.signed, IntKind.bits]
 omega
theorem Of_neg (a w : World) (x : Nat) (h0 : 0 < x) (hx : x ≤ 9223372036854775808) (hw : Below a.heap.size a w) :
  Calls Tryz.prog 77 #[.int .i64 (-(x : Int))] w (IRes a (-(x : Int))) := by
 have hlt0 : decide (-(x : Int) < 0) = true := by simp; omega
 have e1 := wrap_neg x h0 hx
 have e2 := wrap_neg2 x h0 hx
 go_enter Tryz.func77, Tryz.ntmps77
 go_wp2_with fail
 refine (fromSingle_any _ _ x (by omega) (b0 _)).mono ?_
 rintro e w1 ⟨A, c, l, rfl, hc, ho, ht, hv, hb⟩
 have hlen : l.length ≤ 2 := top_len ht (by rw [hv]; show x < 4294967296 ^ 2; omega)
 have HV := Hi hv
 clear hv
 go_wp2_with fail
 refine (signed_res _ _ true A c l (by omega) hc ho ht hb).mono ?_
 rintro e w2 ⟨ng, A2, c2, l2, rfl, hc2, hl2, hB, hz, hb2⟩
 have hbx := (Box2.new w (.bool false) (.slice none 0 0)).below hb2
 obtain ⟨q0, q1⟩ := hbx.cs
 have f0 := hbx.free 0
 have f1 := hbx.free 1
 obtain ⟨k0, k1, k2⟩ := hbx.back (.bool ng) (.slice A2 l2.length c2)
 have HZ := Hi hz
 have HBB := Hi hB
 clear hz hB
 go_wp2_with fail
 refine bodyPost_ret (v := .agg #[.bool ng, .slice A2 l2.length c2]) (by simp [results, Tryz.results77, go_sem, k0, k2]) rfl ?_
 exact ires_store hw (ba (b0 _) _) (by simp) (Nat.le_refl _) hc2 hl2 HBB.out (by rw [HZ.out]; show -(val l : Int) = _; rw [HV.out]) hb2
open Go.RowKit
variable {W w : World} {g n p : Nat} {l : List Nat} {u v : Value}
theorem RIs_any (neg : Bool) (A : Option Addr) (n c : Nat) (l : List Nat) (w : World) (hn : l.length = n) (hm : n ≤ 4000000) (hws : WS w A l) :
  Calls Tryz.prog 31 #[.agg #[.bool neg, .slice A n c]] w fun e w' => e = .returned (.bool (isB neg l)) ∧ Below w.heap.size w w' := by
 subst hn
 by_cases h0 : l.length = 0
 ·have e1 : isB neg l = !neg := by unfold isB; rw [if_pos h0]
  have E1 := Hi e1
  clear e1
  rw [h0]
  clear h0
  go_enter Tryz.func31, Tryz.ntmps31
  exact m86229
 ·obtain ⟨b, off, rfl, hlt, hc⟩ := hws.at_ (by omega)
  have e1 : isB neg l = (((gd l (l.length - 1) : Nat) : Int) != 0) := by unfold isB; rw [if_neg h0]
  have E1 := Hi e1
  have hc1 := hc (l.length - 1) (by omega)
  have hz : ((l.length : Int) == 0) = false := beq_eq_false_iff_ne.2 (by omega)
  have hl1 : 1 ≤ (l.length : Int) := by omega
  have hx := hws.lt (l.length - 1)
  clear e1 hc
  generalize hl : gd l (l.length - 1) = x at *
  clear hl
  go_enter Tryz.func31, Tryz.ntmps31
  exact m86229
theorem Rtrim_any (A : Option Addr) (n c : Nat) (l : List Nat) (w : World) (hn : l.length = n) (hm : n ≤ 4000000) (hnc : n ≤ c) (hws : WS w A l) :
  Calls Tryz.prog 149 #[.slice A n c] w (TrimP A n c l w) := by
 subst hn
 go_enter Tryz.func149, Tryz.ntmps149
 exact m62242
theorem Rword_any (A : Option Addr) (n c : Nat) (i : Int) (l : List Nat) (w : World) (hn : l.length = n) (hm : n ≤ 4000000) (hi : 0 ≤ i) (hi2 : i ≤ 4000000) (hws : WS w A l) :
  Calls Tryz.prog 145 #[.slice A n c, .int .i64 i] w fun e w' => e = .returned (.int .u64 ((gd l i.toNat : Nat) : Int)) ∧ w = w' := by
 subst hn
 obtain ⟨j, rfl⟩ := Int.eq_ofNat_of_zero_le hi
 by_cases h0 : j < l.length
 ·obtain ⟨b, off, rfl, hlt, hc⟩ := hws.at_ (by omega)
  have hc1 := hc j h0
  have hx := hws.lt j
  rw [Int.toNat_natCast]
  clear hc
  go_enter Tryz.func145, Tryz.ntmps145
  go_wp2
  go_ret
  exact ⟨rfl, rfl⟩
 ·have e : gd l j = 0 := gd_end (by omega)
  have E := Hi e
  clear e
  rw [Int.toNat_natCast, E.out]
  go_enter Tryz.func145, Tryz.ntmps145
  go_wp2
  go_ret
  exact ⟨rfl, rfl⟩
def WRes (a : World) (z : Int) (e : Ending) (w' : World) : Prop :=
 ∃ neg A c l, e = .returned (.agg #[.bool neg, .slice A l.length c]) ∧ l.length ≤ c ∧ WS w' A l ∧ isB neg l = true ∧ zI neg l = z ∧ Below a.heap.size a w'
theorem IRes.weak {a : World} {z : Int} {e : Ending} {w' : World} (h : IRes a z e w') : WRes a z e w' := by
 obtain ⟨neg, A, c, l, h1, h2, h3, h4, h5, h6⟩ := h
 exact ⟨neg, A, c, l, h1, h2, h3.ws, h4, h5, h6⟩
theorem info_v : ∃ i, Tryz.prog.info? 83 = some i ∧ i.zero = some (.int .u32 0) ∧ i.size = 1 ∧ i.bytes = 4 := by
 have h := info_w
 cases hi : Tryz.prog.info? 83 with
 | none => rw [hi] at h; cases h
 | some i => rw [hi] at h; simp only [Option.map_some, Option.some.injEq, Prod.mk.injEq] at h; exact ⟨i, rfl, h.1, h.2.1, h.2.2⟩
theorem ws_of_row {base g n cap : Nat} (hl : ∀ x ∈ l, x < 4294967296) (hn : l.length = n) (h : w.ownsRow base 83 1 (.slice (some ⟨g, 0, none⟩) n cap) n (l.map fun (x : Nat) => Value.int .u32 (x : Int))) (h0 : 0 < n) (hg : g < w.heap.size) : n ≤ cap ∧ WS w (some ⟨g, 0, none⟩) l := by
 rcases h.2 with ⟨h1, _⟩ | ⟨g', cap', cur, h1, _, h2, h3, _, h4, h5⟩
 ·cases h1
 ·injection h1 with h1 h6 h7
  injection h1 with h1
  injection h1 with h1
  subst h1 h7
  refine ⟨h3, hl, fun _ => ⟨g, 0, rfl, hg, fun j hj => ?_⟩⟩
  rw [cell_of_row w g _ _ _ (0, 0) h2]
  have e1 : (cur.toList.take (n * 1))[j]? = some (.int .u32 ((gd l j : Nat) : Int)) := by
   rw [h5, List.getElem?_map, List.getElem?_eq_getElem hj, gd_at hj]; rfl
  rw [List.getElem?_take_of_lt (by omega)] at e1
  simpa using e1
theorem box2_only {W W' : World} (h : Box2 W p u v) (hb : Only g W W') (hne : p ≠ g) : Box2 W' p u v := (hb.block p h.lt (fun e => hne (by injection e))).trans h
theorem one_words : ∀ u ∈ l.map (fun (x : Nat) => Value.int .u32 (x : Int)), u.oneCell' = true := fun u hu => by
 obtain ⟨x, _, rfl⟩ := List.mem_map.1 hu
 rfl
theorem own_empty (w : World) (o : Obj) : ((w.alloc o).alloc (.cells #[] 83)).ownsRow (w.heap.size + 1) 83 1 (.slice (some ⟨w.heap.size + 1, 0, none⟩) 0 0) 0 [] :=
 ⟨rfl, .inr ⟨w.heap.size + 1, 0, #[], rfl, Nat.le_refl _, by
  have h := heap_alloc_new (w.alloc o) (.cells #[] 83)
  rwa [World.size_alloc] at h, Nat.le_refl _, by simp [maxLen], rfl, rfl⟩⟩
theorem news_ws {b off k : Nat} (hk : k ≤ l.length) (h : WS w (some ⟨b, off, none⟩) l) :
  ∀ j u, ((l.take k).map fun (x : Nat) => Value.int .u32 (x : Int))[j]? = some u → w.cell? ((⟨b, off, none⟩ : Addr).add j) = some u := fun j u hu => by
 have hj : j < (l.take k).length := by
  rcases Nat.lt_or_ge j (l.take k).length with h1 | h1
  ·exact h1
  ·rw [List.getElem?_eq_none (by simpa using h1)] at hu; cases hu
 have hjk : j < k := by simp at hj; omega
 have hjl : j < l.length := by omega
 obtain ⟨b', off', e, _, hc⟩ := h.at_ (by omega)
 injection e with e
 injection e with e1 e2
 subst e1 e2
 rw [List.getElem?_map, List.getElem?_eq_getElem hj] at hu
 have hadd : (⟨b, off, none⟩ : Addr).add j = ⟨b, off + j, none⟩ := by unfold Addr.add; split <;> simp_all
 rw [hadd, hc j hjl, gd_at hjl]
 simpa using hu
theorem Rmade_any (a w : World) (neg : Bool) (A : Option Addr) (n c : Nat) (l : List Nat) (hn : l.length = n) (hm : n ≤ 4000000) (hnc : n ≤ c) (hl : WS w A l) (hw : Below a.heap.size a w) :
  Calls Tryz.prog 94 #[.bool neg, .slice A n c] w (WRes a (zI neg l)) := by
 subst hn
 obtain ⟨i0, hi0, hz0, hz1, hz2⟩ := info_v
 go_enter Tryz.func94, Tryz.ntmps94
 go_wp2_with fail
 refine (Rtrim_any A l.length c l _ rfl hm hnc (hl.below (ba (b0 _) _))).mono ?_
 rintro e w1 ⟨⟨k, hk, rfl, ht, hz⟩, rfl⟩
 rcases Nat.eq_zero_or_pos k with rfl | h0
 ·have e0 : val l = 0 := val_zero_of l (fun j => hz j (Nat.zero_le _))
  go_wp2_with fail
  go_returns
  refine ⟨false, none, 0, [], rfl, Nat.le_refl _, WS.nil_ _ _, rfl, ?_, bt hw (ba (b0 _) _)⟩
  unfold zI; rw [e0]; cases neg <;> rfl
 ·have hk0 : ((k : Int) == 0) = false := beq_eq_false_iff_ne.2 (by omega)
  have hlen : (l.take k).length = k := by simp; omega
  have hvt : val (l.take k) = val l := val_take_top l k hz
  have hTop : Top (l.take k) := fun _ => by rw [hlen, gd_take (by omega)]; exact ht h0
  have HT := Hi hTop
  have HV := Hi hvt
  clear ht hz hvt hTop
  obtain ⟨b, off, rfl, hlt, hc⟩ := hl.at_ (by omega)
  have HC := Hi hc
  clear hc
  go_wp2_with (at_builtin; refine wpList_append_lies _ rfl (.tmp 12) (.tmp 13) _ rfl (w.heap.size + 1) 83 i0 _ 1 4 Tryz.underlying22 hi0 hz0 hz1 hz2 rfl (by omega) (.slice (some ⟨w.heap.size + 1, 0, none⟩) 0 0) 0 [] rfl (own_empty _ _) ⟨b, off, none⟩ k c ((l.take k).map fun (x : Nat) => Value.int .u32 (x : Int)) rfl (by simp; omega) (news_ws hk (hl.below (ba (ba (b0 _) _) _))) one_words h0 (by simp only [maxLen]; omega) (by omega) (by simp) _ rfl ?_; intro g cap w3 hown hgrow hat hlt3; have hO : Only (w.heap.size + 1) ((w.alloc (.cells #[.bool false, .slice none 0 0] 24)).alloc (.cells #[] 83)) w3 := hgrow; have hbx := box2_only ((Box2.new w (.bool false) (.slice none 0 0)).alloc (.cells #[] 83)) hO (by omega); have q0 := hbx.cell0; have q1 := hbx.cell1; have f0 := hbx.free 0; have f1 := hbx.free 1)
  rw [Nat.zero_add] at hown
  obtain ⟨hcap, hws⟩ := ws_of_row (words_take hl.1 k) hlen hown h0 hlt3
  obtain ⟨k0, k1, k2⟩ := hbx.back (.bool neg) (.slice (some ⟨g, 0, none⟩) k cap)
  refine bodyPost_ret (v := .agg #[.bool neg, .slice (some ⟨g, 0, none⟩) k cap]) (by simp [results, Tryz.results94, go_sem, k0, k2]) rfl ?_
  have hgne : g ≠ w.heap.size := by
   rcases hat with h | h
   ·simp [Value.ownBlock] at h; omega
   ·simp at h; omega
  have hs := hw.size
  refine ⟨neg, some ⟨g, 0, none⟩, cap, l.take k, by rw [hlen], by rw [hlen]; exact hcap, hws.two (fun _ b' o' e => by injection e with e; injection e with e1; omega) _ _, isB_of HT.out (fun h => by omega), ?_, b2 (bo (ba (ba hw _) _) hO (by omega)) hs _ _⟩
  unfold zI
  rw [HV.out]
theorem ws_off_box {A : Option Addr} (h : Box2 W p u v) (hu : ∀ x : Nat, u ≠ .int .u32 (x : Int) ∧ v ≠ .int .u32 (x : Int)) (hl : WS W A l) : Off A l p := by
 intro h0 b off e
 obtain ⟨b', off', e', _, hc⟩ := hl.2 h0
 rw [e] at e'
 injection e' with e'
 injection e' with e1 e2
 subst e1 e2
 rintro rfl
 have h1 := hc 0 (List.length_pos_iff.2 h0)
 rw [Nat.add_zero, cell_of_row W _ off _ _ (0, 0) h] at h1
 match off, h1 with
 | 0, h1 => simp at h1; exact (hu _).1 h1
 | 1, h1 => simp at h1; exact (hu _).2 h1
 | k + 2, h1 => simp at h1
open Go.RowKit
variable {W w : World} {g n p : Nat} {l : List Nat} {u v : Value}
theorem list_eq_gd {l k : List Nat} (h : l.length = k.length) (hg : ∀ j, j < l.length → gd l j = gd k j) : l = k := by
 refine List.ext_getElem h fun j h1 h2 => ?_
 have := hg j h1
 rwa [gd_at h1, gd_at h2] at this
theorem RSame_any (na nb : Bool) (A B : Option Addr) (n c m d : Nat) (l k : List Nat) (w : World) (hn : l.length = n) (hm : k.length = m) (hn2 : n ≤ 4000000) (hm2 : m ≤ 4000000) (hl : WS w A l) (hk : WS w B k) :
  Calls Tryz.prog 17 #[.agg #[.bool na, .slice A n c], .agg #[.bool nb, .slice B m d]] w fun e w' => e = .returned (.bool (na == nb && decide (l = k))) ∧ Below w.heap.size w w' := by
 subst hn hm
 by_cases h1 : na = nb
 ·subst h1
  by_cases h2 : l.length = k.length
  ·have e1 : ((l.length : Int) != (k.length : Int)) = false := by simp; omega
   have H2 := Hi h2
   clear h2
   go_enter Tryz.func17, Tryz.ntmps17
   go_wp2_with fail
   obtain ⟨W1, hW1⟩ : ∃ W, W = (w.alloc (.cells #[.bool na, .slice A l.length c] 24)).alloc (.cells #[.bool na, .slice B k.length d] 24) := ⟨_, rfl⟩
   have x0 : Box2 W1 w.heap.size (.bool na) (.slice A l.length c) := by rw [hW1]; exact (Box2.new w _ _).alloc _
   have x1 : Box2 W1 (w.heap.size + 1) (.bool na) (.slice B k.length d) := by
    rw [hW1]
    have h := Box2.new (w.alloc (.cells #[.bool na, .slice A l.length c] 24)) (.bool na) (.slice B k.length d)
    rwa [World.size_alloc] at h
   have hw1 : Below w.heap.size w W1 := by rw [hW1]; exact ba (ba (b0 _) _) _
   rw [← hW1]
   have hl1 := hl.below hw1
   have hk1 := hk.below hw1
   have HB := Hi hw1
   clear hW1 hl hk hw1
   go_loopw [5] (fun iv wr => ∃ i : Nat, iv = .int .i64 (i : Int) ∧ i ≤ l.length ∧ (∀ j, j < i → gd l j = gd k j) ∧ Below W1.heap.size W1 wr) (fun iv _ => l.length - (intOf iv).toNat)
   case atStart => exact ⟨0, rfl, Nat.zero_le _, fun j hj => absurd hj (by omega), b0 _⟩
   case round =>
    obtain ⟨i, rfl, hi, hpre, hwr⟩ := hrel
    have HPR := Hi hpre
    clear hpre
    have c0 := (x0.below hwr).cell1
    have c1 := (x1.below hwr).cell1
    rcases Nat.lt_or_ge i l.length with hlt | hge
    ·have hlti : (i : Int) < (l.length : Int) := by omega
     obtain ⟨b, off, rfl, hb1, hc1⟩ := (hl1.below hwr).at_ (by omega)
     obtain ⟨b', off', rfl, hb2, hc2⟩ := (hk1.below hwr).at_ (by have := H2.out; omega)
     have d1 := hc1 i hlt
     have d2 := hc2 i (by have := H2.out; omega)
     have hltk : (i : Int) < (k.length : Int) := by have := H2.out; omega
     have hx := hl1.lt i
     have hy := hk1.lt i
     clear hc1 hc2
     by_cases hg : gd l i = gd k i
     ·have HG := Hi hg
      have hne : (((gd l i : Nat) : Int) != ((gd k i : Nat) : Int)) = false := by rw [hg]; simp
      clear hg
      go_wp2_with fail
      go_quiet (fail)
      go_wp2_with fail
      go_roundw
      case rel =>
       refine ⟨i + 1, by go_num, by omega, fun j hj => ?_, bd hwr _⟩
       rcases Nat.lt_or_ge j i with h | h
       ·exact HPR.out j h
       ·rw [show j = i from by omega]; exact HG.out
      case measure => simp [intOf]; omega
     ·have HG := Hi hg
      have hne : (((gd l i : Nat) : Int) != ((gd k i : Nat) : Int)) = true := by simp; omega
      clear hg
      go_wp2_with fail
      go_quiet (fail)
      go_wp2_with fail
      go_ret
      exact ⟨ret_bool (by have : l ≠ k := fun h => HG.out (by rw [h]); simp [this]), bd (bt HB.out hwr) _⟩
    ·have hnlt : ¬ (i : Int) < (l.length : Int) := by omega
     go_wp2_with fail
     go_ret
     exact ⟨ret_bool (by have : l = k := list_eq_gd H2.out (fun j hj => HPR.out j (by omega)); simp [this]), bt HB.out hwr⟩
  ·have e1 : ((l.length : Int) != (k.length : Int)) = true := by simp; omega
   have hne : l ≠ k := fun h => h2 (by rw [h])
   have HN := Hi hne
   clear hne
   go_enter Tryz.func17, Tryz.ntmps17
   go_wp2_with fail
   go_ret
   exact ⟨ret_bool (by have := HN.out; simp [this]), ba (ba (b0 _) _) _⟩
 ·have e1 : (na != nb) = true := by simpa using h1
  have H1 := Hi h1
  clear h1
  go_enter Tryz.func17, Tryz.ntmps17
  go_wp2_with fail
  go_ret
  exact ⟨ret_bool (by have := H1.out; simp [this]), ba (ba (b0 _) _) _⟩
open Go.RowKit
variable {W w : World} {g n p : Nat} {l : List Nat} {u v : Value}
theorem m53fff {P : Prop} (h : P := by
 rintro e w3 ⟨ng, A3, c3, l3, rfl, hc3, hl3, hB3, hz3, hb3⟩
 have HZ3 := Hi hz3
 have HB3 := Hi hB3
 clear hz3 hB3
 have hbx3 := hbx.below hb3
 obtain ⟨x0, x1⟩ := hbx3.cs
 have f0 := hbx3.free 0
 have f1 := hbx3.free 1
 obtain ⟨k0, k1, k2⟩ := hbx3.back (.bool ng) (.slice A3 l3.length c3)
 go_wp2_with fail
 refine bodyPost_ret (v := .agg #[.bool ng, .slice A3 l3.length c3]) (by simp [results, Tryz.results59, go_sem, k0, k2]) rfl ?_
 have hof := ws_off_box hbx3 (by simp) hl3
 refine ⟨ng, A3, c3, l3, rfl, hc3, hl3.two hof _ _, HB3.out, ?_, b2 (bt (ba (ba hw _) _) hb3) (by have := hw.size; omega) _ _⟩
 rw [HZ3.out]
 simp [zI, val]
 omega) : P := h
theorem ROf_pos (a w : World) (x : Nat) (hx : x < 9223372036854775808) (hw : Below a.heap.size a w) :
  Calls Tryz.prog 59 #[.int .i64 (x : Int)] w (WRes a (x : Int)) := by
 have hlt0 : decide ((x : Int) < 0) = false := by simp
 have hd : x / 4294967296 < 4294967296 := by omega
 have hmd : x % 4294967296 < 4294967296 := Nat.mod_lt _ (by decide)
 go_enter Tryz.func59, Tryz.ntmps59
 go_wp2_with fail
 rw [show (#[Value.int IntKind.u32 (↑x % 4294967296), Value.int IntKind.u32 (↑x / 4294967296)] : Array Value) = words [x % 4294967296, x / 4294967296] from by simp [words]]
 have hbx := (Box2.new w (.bool false) (.slice none 0 0)).alloc (.cells (words [x % 4294967296, x / 4294967296]) 83)
 have hwd := Blk.new (w.alloc (.cells #[.bool false, .slice none 0 0] 24)) [x % 4294967296, x / 4294967296] (by simp; omega)
 rw [World.size_alloc] at hwd
 have hws := hwd.ws (o := 0) (n := 2) (by simp)
 rw [List.drop_zero, show List.take 2 [x % 4294967296, x / 4294967296] = [x % 4294967296, x / 4294967296] from rfl] at hws
 refine (Rmade_any _ _ false _ 2 2 [x % 4294967296, x / 4294967296] rfl (by omega) (by omega) hws (b0 _)).mono ?_
 exact m53fff
theorem ROf_neg (a w : World) (x : Nat) (h0 : 0 < x) (hx : x ≤ 9223372036854775808) (hw : Below a.heap.size a w) :
  Calls Tryz.prog 59 #[.int .i64 (-(x : Int))] w (WRes a (-(x : Int))) := by
 have hlt0 : decide (-(x : Int) < 0) = true := by simp; omega
 have e1 := wrap_neg x h0 hx
 have e2 := wrap_neg2 x h0 hx
 have hd : x / 4294967296 < 4294967296 := by omega
 have hmd : x % 4294967296 < 4294967296 := Nat.mod_lt _ (by decide)
 go_enter Tryz.func59, Tryz.ntmps59
 go_wp2_with fail
 rw [show (#[Value.int IntKind.u32 (↑x % 4294967296), Value.int IntKind.u32 (↑x / 4294967296)] : Array Value) = words [x % 4294967296, x / 4294967296] from by simp [words]]
 have hbx := (Box2.new w (.bool false) (.slice none 0 0)).alloc (.cells (words [x % 4294967296, x / 4294967296]) 83)
 have hwd := Blk.new (w.alloc (.cells #[.bool false, .slice none 0 0] 24)) [x % 4294967296, x / 4294967296] (by simp; omega)
 rw [World.size_alloc] at hwd
 have hws := hwd.ws (o := 0) (n := 2) (by simp)
 rw [List.drop_zero, show List.take 2 [x % 4294967296, x / 4294967296] = [x % 4294967296, x / 4294967296] from rfl] at hws
 refine (Rmade_any _ _ true _ 2 2 [x % 4294967296, x / 4294967296] rfl (by omega) (by omega) hws (b0 _)).mono ?_
 exact m53fff
theorem ROf_any (a w : World) (x : Int) (h1 : -9223372036854775808 ≤ x) (h2 : x ≤ 9223372036854775807) (hw : Below a.heap.size a w) :
  Calls Tryz.prog 59 #[.int .i64 x] w (WRes a x) := by
 rcases Int.lt_or_le x 0 with h | h
 ·obtain ⟨y, rfl⟩ : ∃ y : Nat, x = -(y : Int) := ⟨x.natAbs, by omega⟩
  exact ROf_neg a w y (by omega) (by omega) hw
 ·obtain ⟨y, rfl⟩ : ∃ y : Nat, x = (y : Int) := ⟨x.toNat, by omega⟩
  exact ROf_pos a w y (by omega) hw
theorem Of_any (a w : World) (x : Int) (h1 : -9223372036854775808 ≤ x) (h2 : x ≤ 9223372036854775807) (hw : Below a.heap.size a w) :
  Calls Tryz.prog 77 #[.int .i64 x] w (IRes a x) := by
 rcases Int.lt_or_le x 0 with h | h
 ·obtain ⟨y, rfl⟩ : ∃ y : Nat, x = -(y : Int) := ⟨x.natAbs, by omega⟩
  exact Of_neg a w y (by omega) (by omega) hw
 ·obtain ⟨y, rfl⟩ : ∃ y : Nat, x = (y : Int) := ⟨x.toNat, by omega⟩
  exact Of_pos a w y (by omega) hw
theorem quiet_w {P : Program} {f : FuncId} {args : Array Value} (h : Calls P f args (w.drewN n) fun e w' => e = .returned v ∧ w.drewN n = w') :
  Calls P f args (w.drewN n) fun e w'' => e = .returned v ∧ ∃ m, w'' = w.drewN m := h.mono fun _ _ h => ⟨h.1, n, h.2.symm⟩
open Go.RowKit
variable {W w : World} {g n p : Nat} {l : List Nat} {u v : Value}
theorem same_iff {n1 n2 : Bool} {l1 l2 : List Nat} (w1 : ∀ x ∈ l1, x < 4294967296) (w2 : ∀ x ∈ l2, x < 4294967296) (h1 : isB n1 l1 = true) (h2 : isB n2 l2 = true) : (n1 == n2 && decide (l1 = l2)) = decide (zI n1 l1 = zI n2 l2) := by
 rw [Bool.eq_iff_iff]
 simp only [Bool.and_eq_true, beq_iff_eq, decide_eq_true_eq]
 constructor
 ·rintro ⟨rfl, rfl⟩; rfl
 ·intro h
  have hv : val l1 = val l2 := by
   have e : ∀ (n : Bool) (l : List Nat), (zI n l).natAbs = val l := fun n l => by cases n <;> simp [zI]
   rw [← e n1, ← e n2, h]
  have hl := top_inj w1 w2 (isB_top h1) (isB_top h2) hv
  subst hl
  refine ⟨?_, rfl⟩
  by_cases h0 : l1.length = 0
  ·rw [isB_nil h1 h0, isB_nil h2 h0]
  ·have hp := val_pos (isB_top h1) (by omega)
   cases n1 <;> cases n2 <;> simp [zI] at h ⊢ <;> omega
end Go.Proofs.YtgljdfblgpdaaaaGreatDoor
