import Derived.Defers
import Derived.Recover
import Derived.Laws.Pointers
import Derived.Test.YtgljdfblgpdaaaaGreatDoorPbRefV
set_option linter.unusedSimpArgs false
set_option linter.unusedVariables false
set_option maxRecDepth 100000
set_option maxHeartbeats 4000000
namespace Go.Proofs.YtgljdfblgpdaaaaGreatDoor
open Go.RowKit Go.Shelf
variable {A : Option Addr} {c : Nat} {l : List Nat} {n : Bool} {w : World} {z : Int}
def QTxt (s : ByteArray) (x y : Int) : Prop := (y = 1 ∧ IsTxt s x) ∨ (y ≠ 1 ∧ ∃ s1 s2, IsTxt s1 x ∧ IsTxt s2 y ∧ s = s1 ++ ⟨#[47]⟩ ++ s2)
theorem IsTxt.any {s : ByteArray} (h : IsTxt s z) {e : Nat} (hz : z.natAbs < 2 ^ e) : s.size ≤ e + 2 := by
 rcases h with ⟨_, rfl⟩ | ⟨_, ds, rfl, hne, hp, hv⟩
 ·show 1 ≤ e + 2
  omega
 ·have h1 := plain_lower hp hne
  have h3 : ds.length - 1 < e := by
   rcases Nat.lt_or_ge (ds.length - 1) e with h | h
   ·exact h
   ·have h4 : 2 ^ e ≤ 2 ^ (ds.length - 1) := Nat.pow_le_pow_right (by decide) h
    have h5 : 2 ^ (ds.length - 1) ≤ 10 ^ (ds.length - 1) := Nat.pow_le_pow_left (by decide) _
    omega
  show ((if z < 0 then [45] else []) ++ ds).toArray.size ≤ _
  have h6 : (if z < 0 then [(45 : UInt8)] else []).length ≤ 1 := by split <;> simp
  simp only [List.size_toArray, List.length_append]
  omega
theorem IV.txt (h : IV w n A c l z) {s : ByteArray} (hs : IsTxt s z) : s.size ≤ 100000 := by
 have h1 := hs.any (e := 32 * 2100) (by have h2 := lt_le (lt_val h.ws h.val) h.len; unfold Lt at h2; rw [bb_pow] at h2; exact h2)
 omega
def PrQ (w : World) (x y : Int) (e : Ending) (w' : World) : Prop := ∃ s, e = .returned (.string s) ∧ QTxt s x y ∧ Below w.heap.size w w'
theorem QPrint_frac {n m : Bool} {A B : Option Addr} {c d : Nat} {l k : List Nat} {x y : Int} (h : IV w n A c l x) (h2 : IV w m B d k y) (hT : Tens w) (hy : y ≠ 1) :
  Calls Tryz.prog 66 #[.agg #[.bool n, .slice A l.length c, .bool m, .slice B k.length d]] w (PrQ w x y) := by
 have H1 := Hi h
 have H2 := Hi h2
 have HTN := Hi hT
 have HY := Hi hy
 clear h h2 hT hy
 obtain ⟨W1, hW1, hw1, x0⟩ := hdQ w n A c l m B d k
 go_enter Tryz.func66, Tryz.ntmps66
 go_wp2_with fail
 rw [← hW1]
 clear hW1
 refine g0 ?_
 intros
 refine (isOne_iv (H2.out.below hw1)).mono ?_
 rintro e w2 ⟨rfl, hb⟩
 replace x0 := x0.below hb
 have hw1_ := bt hw1 hb
 clear hb hw1
 rw [show decide (y = 1) = false from decide_eq_false HY.out]
 refine g0 ?_
 intros
 have HC := x0.hc
 have HW := Hi hw1_
 have Gx0 := Hi x0
 clear x0 hw1_
 refine rg0 8 HC fun hHeld => ?_
 refine tk 0 ?_
 refine tk 1 ?_
 refine tk 4 ?_
 refine tk 5 ?_
 refine cl 2 fun K hK => ?_
 go_simp
 go_at_call 84
 refine (Print_iv (H1.out.below (bt HW.out (bw (b0 _)))) (HTN.out.below (bt HW.out (bw (b0 _))))).mono ?_
 rintro e wa ⟨s1, rfl, hs1, hb⟩
 have HBwa := Hi (bt (bw (b0 w2)) hb)
 have HS1 := Hi hs1
 have LS1 := Hi (H1.out.txt hs1)
 have ls1 := LS1.out
 have sn1 : ¬ 9223372036854775807 < s1.size + 1 := by omega
 clear hb hs1 hHeld
 refine rk hK (HC.out _ HBwa.out) fun hHeld => ?_
 clear hK K
 refine tk 3 ?_
 refine cl 6 fun K hK => ?_
 go_simp
 go_at_call 84
 refine (Print_iv (H2.out.below (bt HW.out HBwa.out)) (HTN.out.below (bt HW.out HBwa.out))).mono ?_
 rintro e wb ⟨s2, rfl, hs2, hb⟩
 have HBwb := Hi (bt HBwa.out hb)
 have HS2 := Hi hs2
 have LS2 := Hi (H2.out.txt hs2)
 have ls2 := LS2.out
 have sn2 : ¬ 9223372036854775807 < s1.size + 1 + s2.size := by omega
 clear hb hs2 hHeld
 refine rk hK (HC.out _ HBwb.out) fun hHeld => ?_
 clear hK K
 refine tk 7 ?_
 refine wpAnyH_done (by kernel_rfl) ?_ _
 simp only [HT]
 clear hHeld
 have hw2_ := bt HW.out HBwb.out
 go_wp2_with fail
 go_ret
 exact ⟨_, rfl, .inr ⟨HY.out, s1, s2, HS1.out, HS2.out, rfl⟩, hw2_⟩
open Go.RowKit Go.Shelf
variable {A B : Option Addr} {W W' w : World} {c d : Nat} {k l : List Nat} {m n : Bool} {x y z : Int}
theorem refuse_no (w : World) (er : Int) : Calls Tryz.prog 160 #[.bool false, .int .i64 er] w fun e w' => e = .returned (.tuple #[]) ∧ w' = w := by
 go_enter Tryz.func160, Tryz.ntmps160
 go_wp2
 go_end0
 exact ⟨rfl, rfl⟩
theorem LCut_yes (w : World) (s : ByteArray) (c : UInt8) (k : Nat) (hk : Lib.indexByte s.data.toList c = (k : Int)) (hks : k < s.size) (hs : s.size ≤ 1000000) :
  Calls Tryz.prog 184 #[.string s, .string ⟨#[c]⟩] w fun e w' => e = .returned (.tuple #[.string (s.extract 0 k), .string (s.extract (k + 1) s.size), .bool true]) ∧ Below w.heap.size w w' := by
 go_enter Tryz.func184, Tryz.ntmps184
 go_wp2_with fail
 refine (Tryz.stringslite_Index_one s c _).mono ?_
 rintro e w1 ⟨rfl, rfl⟩
 rw [hk]
 have h0 : (0 : Int) ≤ (k : Int) := by omega
 have h1 : (k : Int) ≤ (s.size : Int) := by omega
 have h2 : (k : Int) + 1 ≤ (s.size : Int) := by omega
 have h3 : ¬ (k : Int) < 0 := by omega
 have h4 : ¬ (s.size : Int) < (k : Int) := by omega
 have h5 : wrap64 ((k : Int) + 1) = (k : Int) + 1 := by unfold wrap64; omega
 have h6 : IntKind.i64.wrap ((k : Int) + 1) = (k : Int) + 1 := by rw [IntKind.wrap_i64]; omega
 have h7 : (0 : Int) ≤ (k : Int) + 1 := by omega
 have h8 : ((k : Int) + 1).toNat = k + 1 := by omega
 go_wp2_with fail
 refine wp_region_held_drew (S := fun _ => True) (by kernel_rfl) trivial (fun hHeld => ?_)
 refine tk 0 ?_
 refine tk 1 ?_
 refine tk 2 ?_
 refine tk 3 ?_
 refine tk 4 ?_
 refine tk 5 ?_
 refine tk 6 ?_
 refine tk 7 ?_
 refine tk 8 ?_
 refine tk 9 ?_
 refine tk 10 ?_
 refine tk 11 ?_
 refine wpAnyH_done (by kernel_rfl) ?_ _
 refine (by assumption : ∀ (a : Act) (w : World), Code.wp _ Code.ret _ a w → _) _ _ (wp_ret ?_)
 simp only [Exit.then]
 refine bodyPost_ret (v := .tuple #[.string (s.extract 0 k), .string (s.extract (k + 1) s.size), .bool true]) (by simp [results, Tryz.results184, go_sem]) rfl ?_
 exact ⟨rfl, bw (b0 _)⟩
theorem SCut_yes (w : World) (s : ByteArray) (c : UInt8) (k : Nat) (hk : Lib.indexByte s.data.toList c = (k : Int)) (hks : k < s.size) (hs : s.size ≤ 1000000) :
  Calls Tryz.prog 159 #[.string s, .string ⟨#[c]⟩] w fun e w' => e = .returned (.tuple #[.string (s.extract 0 k), .string (s.extract (k + 1) s.size), .bool true]) ∧ Below w.heap.size w w' := by
 go_enter Tryz.func159, Tryz.ntmps159
 go_wp2_with fail
 refine (LCut_yes _ s c k hk hks hs).mono ?_
 rintro e w1 ⟨rfl, hb⟩
 go_wp2_with fail
 refine bodyPost_ret (v := .tuple #[.string (s.extract 0 k), .string (s.extract (k + 1) s.size), .bool true]) (by simp [results, Tryz.results159, go_sem]) rfl ?_
 exact ⟨rfl, hb⟩
structure KV (W : World) (n : Bool) (A : Option Addr) (l : List Nat) (z : Int) : Prop where
 ws : WS W A l
 can : isB n l = true
 val : zI n l = z
 len : l.length ≤ 2100
theorem KV.below (h : KV W n A l z) (hb : Below W.heap.size W W') : KV W' n A l z := ⟨h.ws.below hb, h.can, h.val, h.len⟩
theorem KV.b (h : KV W n A l z) (hb : Below W.heap.size W W' := by (first | exact b0 _ | (repeat (first | exact Hid.out (by assumption) | refine bt (Hid.out (by assumption)) ?_)))) : KV W' n A l z := h.below hb
theorem KV.of (hw : WS W A l) (hB : isB n l = true) (hz : zI n l = z) (hl : Lt 2100 z) : KV W n A l z := ⟨hw, hB, hz, top_len (isB_top hB) (by rw [val_abs hz]; exact hl)⟩
theorem KV.four (h : KV W n A l z) {p : Nat} {u v : Bool} {B C : Option Addr} {k d i e : Nat} (hb : Box4 W p (.bool u) (.slice B k d) (.bool v) (.slice C i e)) (x y s t : Value) :
  KV ((((W.setCell ⟨p, 0, none⟩ x).setCell ⟨p, 1, none⟩ y).setCell ⟨p, 2, none⟩ s).setCell ⟨p, 3, none⟩ t) n A l z := by
 have ho := ws_off4 h.ws hb
 exact ⟨(h.ws.two ho _ _).two23 ho _ _, h.can, h.val, h.len⟩
theorem Gcd_kv (h : KV w n A l x) (h2 : KV w m B k y) (hz : ((Nat.gcd x.natAbs y.natAbs : Nat) : Int) = z) (hlt : Lt 2100 z) :
  Calls Tryz.prog 24 #[.agg #[.bool n, .slice A l.length c], .agg #[.bool m, .slice B k.length d]] w (RIV w z) := by
 exact m859f2
def RIK (w : World) (p q : Int) (e : Ending) (w' : World) : Prop :=
 ∃ n A c l m B d k, e = .returned (.agg #[.bool n, .slice A (List.length l) c, .bool m, .slice B (List.length k) d]) ∧ KV w' n A l p ∧ KV w' m B k q ∧ Below w.heap.size w w'
theorem rik_store {r : Nat} (hW : Below w.heap.size w W) (hp : w.heap.size ≤ r) (hbx : Box4 W r (.bool false) (.slice none 0 0) (.bool false) (.slice none 0 0)) (h : KV W n A l x) (h2 : KV W m B k y) :
  RIK w x y (.returned (.agg #[.bool n, .slice A l.length c, .bool m, .slice B k.length d])) ((((W.setCell ⟨r, 0, none⟩ (.bool n)).setCell ⟨r, 1, none⟩ (.slice A l.length c)).setCell ⟨r, 2, none⟩ (.bool m)).setCell ⟨r, 3, none⟩ (.slice B k.length d)) :=
 ⟨n, A, c, l, m, B, d, k, rfl, h.four hbx _ _ _ _, h2.four hbx _ _ _ _, b4 hW hp _ _ _ _⟩
theorem coprime_kv (h : KV w n A l x) (h2 : KV w m B k y) (hg : ((Nat.gcd x.natAbs y.natAbs : Nat) : Int) = 1) :
  Calls Tryz.prog 109 #[.agg #[.bool n, .slice A l.length c], .agg #[.bool m, .slice B k.length d]] w fun e w' => e = .returned (.bool true) ∧ Below w.heap.size w w' := by
 have H1 := Hi h
 have H2 := Hi h2
 have HG := Hi hg
 clear h h2 hg
 obtain ⟨W1, hW1, hw1, x0, x1⟩ := hdII w n A c l m B d k
 go_enter Tryz.func109, Tryz.ntmps109
 go_wp2_with fail
 rw [← hW1]
 clear hW1
 refine g0i1i ?_
 intros
 refine (Gcd_kv (H1.out.below hw1) (H2.out.below hw1) HG.out (lt_le (lt_one (by decide)) (by decide))).mono ?_
 exact m488b0
theorem read_frac (w : World) (s top bot : ByteArray) (k : Nat) (hk : Lib.indexByte s.data.toList 47 = (k : Int)) (hks : k < s.size) (hs : s.size ≤ 3000) (ht : top = s.extract 0 k) (hbt : bot = s.extract (k + 1) s.size) (h1 : IsTxt top x) (h2 : IsTxt bot y) (hc : Can x y) (hy1 : y ≠ 1) (hb0 : ¬ bot.toList = [48] ∧ ¬ bot.toList = [49] ∧ Lib.hasPrefix bot.data.toList [45] = false) (hL : Lt 2100 x ∧ Lt 2100 y) (hT : Tens w) :
  Calls Tryz.prog 121 #[.string s] w (RIK w x y) := by
 have H1 := Hi h1
 have H2 := Hi h2
 have HTN := Hi hT
 have HL := Hi hL
 have HC := Hi hc
 have HK := Hi hk
 have HB0 := Hi hb0
 clear h1 h2 hT hL hc hk hb0
 obtain ⟨W1, hW1, hw1, x0⟩ := hdq w
 go_enter Tryz.func121, Tryz.ntmps121
 go_wp2_with fail
 rw [← hW1]
 clear hW1
 go_wp2_with fail
 refine (SCut_yes _ s 47 k HK.out hks (by omega)).mono ?_
 rintro e w2 ⟨rfl, hb⟩
 replace x0 := x0.below hb
 have hw1_ := bt hw1 hb
 clear hb hw1
 rw [← ht, ← hbt]
 have HS1 := Hi (show top.size ≤ 20000 ∧ bot.size ≤ 20000 by rw [ht, hbt]; simp; omega)
 clear ht hbt
 go_wp2_with fail
 refine (Parse_txt H1.out HS1.out.1 (HTN.out.below hw1_)).mono ?_
 rintro e w3 ⟨n1, A1, c1, l1, rfl, ws1, can1, val1, hb⟩
 replace x0 := x0.below hb
 have hw2_ := bt hw1_ hb
 clear hb hw1_
 have J1 := Hi (KV.of ws1 can1 val1 HL.out.1)
 clear ws1 can1 val1
 go_upto_region 7 with fail
 obtain ⟨w4, hw⟩ : ∃ W, W = w3.alloc (.cells #[.bool n1, .slice A1 l1.length c1] 24) := ⟨_, rfl⟩
 have xn : Box2 w4 (w3.heap.size) (.bool n1) (.slice A1 l1.length c1) := by
  rw [hw]
  have h := Box2.new w3 (.bool n1) (.slice A1 l1.length c1)
  exact h
 have hb : Below w3.heap.size w3 w4 := by rw [hw]; exact ba (b0 _) _
 rw [← hw]
 clear hw
 replace x0 := x0.below hb
 replace J1 := Hi (J1.out.below hb)
 have hw3_ := bt hw2_ hb
 clear hb hw2_
 go_wp2_with fail
 refine (Parse_txt H2.out HS1.out.2 (HTN.out.below hw3_)).mono ?_
 rintro e w5 ⟨n2, A2, c2, l2, rfl, ws2, can2, val2, hb⟩
 replace x0 := x0.below hb
 replace xn := xn.below hb
 replace J1 := Hi (J1.out.below hb)
 have hw4_ := bt hw3_ hb
 clear hb hw3_
 have J2 := Hi (KV.of ws2 can2 val2 HL.out.2)
 clear ws2 can2 val2
 go_upto_region 8 with fail
 obtain ⟨w6, hw⟩ : ∃ W, W = w5.alloc (.cells #[.bool n2, .slice A2 l2.length c2] 24) := ⟨_, rfl⟩
 have xd : Box2 w6 (w5.heap.size) (.bool n2) (.slice A2 l2.length c2) := by
  rw [hw]
  have h := Box2.new w5 (.bool n2) (.slice A2 l2.length c2)
  exact h
 have hb : Below w5.heap.size w5 w6 := by rw [hw]; exact ba (b0 _) _
 rw [← hw]
 clear hw
 replace x0 := x0.below hb
 replace xn := xn.below hb
 replace J1 := Hi (J1.out.below hb)
 replace J2 := Hi (J2.out.below hb)
 have hw5_ := bt hw4_ hb
 clear hb hw4_
 go_wp2_with fail
 obtain ⟨hb48, hb49, hb45⟩ := HB0.out
 refine (refuse_no _ _).mono ?_
 rintro e wr1 ⟨rfl, rfl⟩
 go_wp2_with fail
 refine (Tryz.strings_HasPrefix _ _ _).mono ?_
 rintro e wr2 ⟨rfl, rfl⟩
 rw [show (⟨#[45]⟩ : ByteArray).data.toList = [45] from rfl, hb45]
 go_wp2_with fail
 rw [show (bot.toList == [48] || bot.toList == [49]) = false by rw [beq_eq_false_iff_ne.2 hb48, beq_eq_false_iff_ne.2 hb49]; rfl]
 refine (refuse_no _ _).mono ?_
 rintro e wr3 ⟨rfl, rfl⟩
 go_wp2_with fail
 refine (refuse_no _ _).mono ?_
 rintro e wr4 ⟨rfl, rfl⟩
 refine gnidi ?_
 intros
 refine (coprime_kv J1.out J2.out (by rw [HC.out.2]; rfl)).mono ?_
 rintro e w8 ⟨rfl, hb⟩
 replace x0 := x0.below hb
 replace xn := xn.below hb
 replace xd := xd.below hb
 replace J1 := Hi (J1.out.below hb)
 replace J2 := Hi (J2.out.below hb)
 have hw6_ := bt hw5_ hb
 clear hb hw5_
 go_wp2_with fail
 refine (refuse_no _ _).mono ?_
 rintro e wr5 ⟨rfl, rfl⟩
 obtain ⟨Cn0, Cn1⟩ := xn.cs
 obtain ⟨Cd0, Cd1⟩ := xd.cs
 obtain ⟨f0, f1, f2, f3⟩ := x0.fr
 obtain ⟨r0, r1, r2, r3⟩ := x0.cs
 go_wp2_with fail
 have z2 := x0.stored (.bool n1) (.slice A1 l1.length c1) (.bool n2) (.slice A2 l2.length c2)
 obtain ⟨k0, k1, k2, k3⟩ := z2.cs
 refine bodyPost_ret (v := .agg #[.bool n1, .slice A1 l1.length c1, .bool n2, .slice A2 l2.length c2]) (by simp [results, Tryz.results121, go_sem, k0, k1, k2, k3]) rfl ?_
 exact rik_store hw6_ (by omega) x0 J1.out J2.out
theorem catch_no (p q : Addr) (w : World) :
  CallsD Tryz.prog 120 #[.pointer (some p), .pointer (some q)] .returning w fun e u' w' => e = .returned (.tuple #[]) ∧ u' = .returning ∧ w' = w := by
 refine callsD_of_wpS Tryz.func120 rfl fun c₀ cs hu => ?_
 have hta : ∀ (xT : TypeId) w, (Instr.typeAssert .nilIface xT 27 true).run Tryz.prog w = .ok (.tuple #[.int .i64 0, .bool false]) w := fun _ w => by first | rfl | kernel_rfl
 apply wpS_seq
 apply wpS_region
 simp [wpOpsS, go_sem, recoverD, hu, Tryz.ntmps120, Exit.thenS, hta]
 apply wpS_seq
 apply wpS_region
 simp [wpOpsS, go_sem, Exit.thenS]
 refine wpS_cond (t := false) (by simp [Act.eval, Array.replicate]) ?_
 simp only [Bool.false_eq_true, if_false]
 refine wpS_of_wp (wp_skip ?_)
 cases c₀
 simp_all [bodyPostS, results, Tryz.results120]
open Go.RowKit Go.Shelf
def RKE (w : World) (p q er : Int) (e : Ending) (w' : World) : Prop :=
 ∃ n A c l m B d k, e = .returned (.tuple #[.agg #[.bool n, .slice A (List.length l) c, .bool m, .slice B (List.length k) d], .int .i64 er]) ∧ KV w' n A l p ∧ KV w' m B k q ∧ Below w.heap.size w w'
theorem ws_off_i {W : World} {p : Nat} {t : TypeId} {A : Option Addr} {l : List Nat} {v : Int} (h : WS W A l) (hs : Cells W p t #[.int .i64 v]) : Off A l p := by
 intro hl b off e
 obtain ⟨b', off', e', _, hc⟩ := h.2 hl
 rw [e] at e'
 injection e' with e'
 injection e' with e1 e2
 subst e1 e2
 rintro rfl
 have h1 := hc 0 (List.length_pos_iff.2 hl)
 rw [Nat.add_zero, Cells.at_ hs off] at h1
 match off, h1 with
 | 0, h1 => simp at h1
 | k + 1, h1 => simp at h1
theorem QParse_frac (w : World) (s top bot : ByteArray) (k : Nat) {x y : Int} (hk : Lib.indexByte s.data.toList 47 = (k : Int)) (hks : k < s.size) (hs : s.size ≤ 3000) (ht : top = s.extract 0 k) (hbt : bot = s.extract (k + 1) s.size) (h1 : IsTxt top x) (h2 : IsTxt bot y) (hc : Can x y) (hy1 : y ≠ 1) (hb0 : ¬ bot.toList = [48] ∧ ¬ bot.toList = [49] ∧ Lib.hasPrefix bot.data.toList [45] = false) (hL : Lt 2100 x ∧ Lt 2100 y) (hT : Tens w) :
  Calls Tryz.prog 64 #[.string s] w (RKE w x y 0) := by
 have H : Hid (∀ W, Below w.heap.size w W → Calls Tryz.prog 121 #[.string s] W (RIK W x y)) := Hi (fun W hW => read_frac W s top bot k hk hks hs ht hbt h1 h2 hc hy1 hb0 hL (hT.below hW))
 clear hk hks hs ht hbt h1 h2 hc hy1 hb0 hL hT
 have hmf : ∀ (fn : Fn) (first cap : Array Value) (w : World), (Instr.makeFunc fn first cap).run Tryz.prog w = .ok (.func fn first cap) w := fun _ _ _ _ => rfl
 go_enter_defers Tryz.func64, Tryz.ntmps64
 go_wp2_with fail
 obtain ⟨W1, hW1⟩ : ∃ W, W = ((w.alloc (.cells #[.bool false, .slice none 0 0, .bool false, .slice none 0 0] 35)).alloc (.cells #[.int .i64 0] 27)) := ⟨_, rfl⟩
 have hw1 : Below w.heap.size w W1 := by rw [hW1]; exact ba (ba (b0 _) _) _
 have x0 : Box4 W1 w.heap.size (.bool false) (.slice none 0 0) (.bool false) (.slice none 0 0) := by rw [hW1]; exact (Box4.new w _ _ _ _).alloc _
 have x1 : Cells W1 (w.heap.size + 1) 27 #[.int .i64 0] := by
  rw [hW1]
  have h := Cells.new (w.alloc (.cells #[.bool false, .slice none 0 0, .bool false, .slice none 0 0] 35)) 27 #[.int .i64 0]
  rw [World.size_alloc] at h
  exact h
 rw [← hW1]
 clear hW1
 refine (H.out W1 hw1).mono ?_
 rintro e w2 ⟨n, A, c, l, m, B, d, k2, rfl, i1, i2, hb⟩
 replace x0 := x0.below hb
 replace x1 := x1.below hb
 have hw2 := bt hw1 hb
 clear hb hw1 H
 obtain ⟨c0, c1, c2, c3⟩ := x0.cs
 have f0 := x0.free 0
 have f1 := x0.free 1
 have f2 := x0.free 2
 have f3 := x0.free 3
 have e0 := Cells.at_ x1 0
 simp at e0
 have e1 := Cells.free x1 0
 go_wp2_with fail
 obtain ⟨W3, hW3⟩ : ∃ W, W = ((((w2.setCell ⟨w.heap.size, 0, none⟩ (.bool n)).setCell ⟨w.heap.size, 1, none⟩ (.slice A l.length c)).setCell ⟨w.heap.size, 2, none⟩ (.bool m)).setCell ⟨w.heap.size, 3, none⟩ (.slice B k2.length d)) := ⟨_, rfl⟩
 have z0 : Box4 W3 w.heap.size (.bool n) (.slice A l.length c) (.bool m) (.slice B k2.length d) := by rw [hW3]; exact x0.stored _ _ _ _
 have z1 : Cells W3 (w.heap.size + 1) 27 #[.int .i64 0] := by rw [hW3]; exact (((Cells.far x1 (by omega) 0 _).far (by omega) 1 _).far (by omega) 2 _).far (by omega) 3 _
 have j1 : KV W3 n A l x := by rw [hW3]; exact i1.four x0 _ _ _ _
 have j2 : KV W3 m B k2 y := by rw [hW3]; exact i2.four x0 _ _ _ _
 have hw3 : Below w.heap.size w W3 := by rw [hW3]; exact b4 hw2 (Nat.le_refl _) _ _ _ _
 rw [← hW3]
 clear hW3 c0 c1 c2 c3 f0 f1 f2 f3 e0 e1
 obtain ⟨W4, hW4⟩ : ∃ W, W = W3.setCell ⟨w.heap.size + 1, 0, none⟩ (.int .i64 0) := ⟨_, rfl⟩
 have hO : Only (w.heap.size + 1) W3 W4 := by rw [hW4]; exact (only_refl (w.heap.size + 1) W3).set_ (.inl rfl) _
 have y0 : Box4 W4 w.heap.size (.bool n) (.slice A l.length c) (.bool m) (.slice B k2.length d) := Cells.only z0 hO (by omega)
 have y1 : Cells W4 (w.heap.size + 1) 27 #[.int .i64 0] := by rw [hW4]; exact Cells.set_ z1 0 _
 have q1 : KV W4 n A l x := ⟨j1.ws.only hO (ws_off_i j1.ws z1), j1.can, j1.val, j1.len⟩
 have q2 : KV W4 m B k2 y := ⟨j2.ws.only hO (ws_off_i j2.ws z1), j2.can, j2.val, j2.len⟩
 have hw4 : Below w.heap.size w W4 := by rw [hW4]; exact bs (p := ⟨w.heap.size + 1, 0, none⟩) hw3 (Nat.le_succ _) _
 rw [← hW4]
 clear hW4 hO z0 z1 j1 j2 hw3 x0 x1 i1 i2 hw2
 refine leaves_cons (f := 120) (args := #[.pointer (some ⟨w.heap.size, 0, none⟩), .pointer (some ⟨w.heap.size + 1, 0, none⟩)]) (by simp) (by simp [go_sem]) ?_
 refine (catch_no _ _ _).mono ?_
 rintro e u' w5 ⟨rfl, rfl, rfl⟩
 obtain ⟨c0, c1, c2, c3⟩ := y0.cs
 have e0 := Cells.at_ y1 0
 simp at e0
 simp [Leaves, settle, results, Tryz.results64, go_sem, c0, c1, c2, c3, e0]
 exact ⟨n, A, c, l, m, B, d, k2, rfl, q1, q2, hw4⟩
end Go.Proofs.YtgljdfblgpdaaaaGreatDoor
