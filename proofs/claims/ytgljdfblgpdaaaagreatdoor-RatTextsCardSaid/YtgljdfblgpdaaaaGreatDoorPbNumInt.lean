import Derived.Shelf.Small.Bits
import Derived.Shelf.Small.Wraps
import Derived.Shelf.Strconv.Itoa0
import Derived.Shelf.Strings.Search1
import Derived.Shelf.Strings.Search2
import Derived.Shelf.Strings.Cut
import Derived.Shelf.LaysM
import Derived.Shelf.Strings.Shaped
import Derived.Shelf.Strings.Prefix
import Derived.Ground.Names2Prog
import Derived.Shelf.Slices.SearchI
import Derived.Test.YtgljdfblgpdaaaaGreatDoorProg
import Derived.Test.YtgljdfblgpdaaaaGreatDoorPbNumSum
set_option linter.unusedSimpArgs false
set_option linter.unusedVariables false
set_option maxRecDepth 100000
set_option maxHeartbeats 4000000
namespace Go.Proofs
open Go.Shelf
def Tryz.lays128_ren : Go.Shelf.Ren := ⟨fun | 128 => 162 | n => n, fun | 51 => 83 | 3 => 3 | 4 => 4 | 46 => 97 | 5 => 5 | 9 => 9 | n => n, fun | n => n⟩
theorem Tryz.lays128 : Go.Proofs.Lays.n128 Tryz.prog Tryz.lays128_ren := {
 mixed := by kernel_rfl
 f128 := Tryz.func162.trans (congrArg some (by kernel_rfl))
 t3 := Tryz.underlying3
 a3 := Tryz.isAgg3
 z3 := Tryz.sizeOf3
 v3 := Tryz.zeroValue3
 t4 := Tryz.underlying4
 a4 := Tryz.isAgg4
 z4 := Tryz.sizeOf4
 v4 := Tryz.zeroValue4
 t5 := Tryz.underlying5
 a5 := Tryz.isAgg5
 z5 := Tryz.sizeOf5
 v5 := Tryz.zeroValue5
 t9 := Tryz.underlying9
 a9 := Tryz.isAgg9
 z9 := Tryz.sizeOf9
 v9 := Tryz.zeroValue9
 t46 := Tryz.underlying97
 a46 := Tryz.isAgg97
 z46 := Tryz.sizeOf97
 v46 := Tryz.zeroValue97
 t51 := Tryz.underlying83
 a51 := Tryz.isAgg83
 z51 := Tryz.sizeOf83
 v51 := Tryz.zeroValue83 }
theorem Tryz.bits_Len32 (x : Int) (w : World) (h0 : 0 ≤ x) (h1 : x ≤ 4294967295) :
  Calls Tryz.prog 162 #[.int .u32 x] w fun e w' => e = .returned (.int .i64 (Lib.bitLen x.toNat)) ∧ w' = w := Any.bits_Len32 Tryz.lays128 x w h0 h1
def Tryz.lays125_ren : Go.Shelf.Ren := ⟨fun | 125 => 163 | 128 => 162 | 129 => 186 | n => n, fun | 46 => 97 | 3 => 3 | 51 => 83 | 53 => 96 | 4 => 4 | 5 => 5 | 9 => 9 | n => n, fun | n => n⟩
theorem Tryz.lays125 : Go.Proofs.Lays.n125 Tryz.prog Tryz.lays125_ren := {
 mixed := by kernel_rfl
 f125 := Tryz.func163.trans (congrArg some (by kernel_rfl))
 f128 := Tryz.func162.trans (congrArg some (by kernel_rfl))
 f129 := Tryz.func186.trans (congrArg some (by kernel_rfl))
 t3 := Tryz.underlying3
 a3 := Tryz.isAgg3
 z3 := Tryz.sizeOf3
 v3 := Tryz.zeroValue3
 t4 := Tryz.underlying4
 a4 := Tryz.isAgg4
 z4 := Tryz.sizeOf4
 v4 := Tryz.zeroValue4
 t5 := Tryz.underlying5
 a5 := Tryz.isAgg5
 z5 := Tryz.sizeOf5
 v5 := Tryz.zeroValue5
 t9 := Tryz.underlying9
 a9 := Tryz.isAgg9
 z9 := Tryz.sizeOf9
 v9 := Tryz.zeroValue9
 t46 := Tryz.underlying97
 a46 := Tryz.isAgg97
 z46 := Tryz.sizeOf97
 v46 := Tryz.zeroValue97
 t51 := Tryz.underlying83
 a51 := Tryz.isAgg83
 z51 := Tryz.sizeOf83
 v51 := Tryz.zeroValue83
 t53 := Tryz.underlying96
 a53 := Tryz.isAgg96
 z53 := Tryz.sizeOf96
 v53 := Tryz.zeroValue96 }
theorem Tryz.bits_Len (x : Int) (w : World) (h0 : 0 ≤ x) (h1 : x ≤ 18446744073709551615) :
  Calls Tryz.prog 163 #[.int .u64 x] w fun e w' => e = .returned (.int .i64 (Lib.bitLen x.toNat)) ∧ w' = w := Any.bits_Len Tryz.lays125 x w h0 h1
def Tryz.lays133_ren : Go.Shelf.Ren := ⟨fun | 133 => 172 | 128 => 162 | n => n, fun | 51 => 83 | 3 => 3 | 4 => 4 | 46 => 97 | 5 => 5 | 9 => 9 | n => n, fun | n => n⟩
theorem Tryz.lays133 : Go.Proofs.Lays.n133 Tryz.prog Tryz.lays133_ren := {
 mixed := by kernel_rfl
 f128 := Tryz.func162.trans (congrArg some (by kernel_rfl))
 f133 := Tryz.func172.trans (congrArg some (by kernel_rfl))
 t3 := Tryz.underlying3
 a3 := Tryz.isAgg3
 z3 := Tryz.sizeOf3
 v3 := Tryz.zeroValue3
 t4 := Tryz.underlying4
 a4 := Tryz.isAgg4
 z4 := Tryz.sizeOf4
 v4 := Tryz.zeroValue4
 t5 := Tryz.underlying5
 a5 := Tryz.isAgg5
 z5 := Tryz.sizeOf5
 v5 := Tryz.zeroValue5
 t9 := Tryz.underlying9
 a9 := Tryz.isAgg9
 z9 := Tryz.sizeOf9
 v9 := Tryz.zeroValue9
 t46 := Tryz.underlying97
 a46 := Tryz.isAgg97
 z46 := Tryz.sizeOf97
 v46 := Tryz.zeroValue97
 t51 := Tryz.underlying83
 a51 := Tryz.isAgg83
 z51 := Tryz.sizeOf83
 v51 := Tryz.zeroValue83 }
theorem Tryz.bits_LeadingZeros32 (x : Int) (w : World) (h0 : 0 ≤ x) (h1 : x ≤ 4294967295) :
  Calls Tryz.prog 172 #[.int .u32 x] w fun e w' => e = .returned (.int .i64 (32 - (Lib.bitLen x.toNat : Int))) ∧ w' = w := Any.bits_LeadingZeros32 Tryz.lays133 x w h0 h1
def Tryz.lays103_ren : Go.Shelf.Ren := ⟨fun | 103 => 129 | 210 => 166 | 206 => 185 | n => n, fun | 9 => 9 | 4 => 4 | 24 => 103 | 3 => 3 | n => n, fun | n => n⟩
theorem Tryz.lays103 : Go.Proofs.Lays.n103 Tryz.prog Tryz.lays103_ren := {
 mixed := by kernel_rfl
 f103 := Tryz.func129.trans (congrArg some (by kernel_rfl))
 f206 := Tryz.func185.trans (congrArg some (by kernel_rfl))
 f210 := Tryz.func166.trans (congrArg some (by kernel_rfl))
 t3 := Tryz.underlying3
 a3 := Tryz.isAgg3
 z3 := Tryz.sizeOf3
 v3 := Tryz.zeroValue3
 t4 := Tryz.underlying4
 a4 := Tryz.isAgg4
 z4 := Tryz.sizeOf4
 v4 := Tryz.zeroValue4
 t9 := Tryz.underlying9
 a9 := Tryz.isAgg9
 z9 := Tryz.sizeOf9
 v9 := Tryz.zeroValue9
 t24 := Tryz.underlying103
 a24 := Tryz.isAgg103
 z24 := Tryz.sizeOf103
 v24 := Tryz.zeroValue103 }
open Go.RowKit in
theorem Tryz.strings_CutPrefix (s p : ByteArray) (w : World) :
  Calls Tryz.prog 129 #[.string s, .string p] w fun e w' => e = .returned (.tuple #[.string ⟨(Lib.trimPrefix s.data.toList p.data.toList).toArray⟩, .bool (Lib.hasPrefix s.data.toList p.data.toList)]) ∧ w' = w := Any.strings_CutPrefix Tryz.lays103 s p w
def Tryz.lays219_ren : Go.Shelf.Ren := ⟨fun | 219 => 199 | 217 => 201 | 225 => 202 | 224 => 203 | 267 => 204 | 266 => 205 | 314 => 206 | n => n, fun | 9 => 9 | 3 => 3 | 4 => 4 | 5 => 5 | 46 => 97 | 146 => 171 | 51 => 83 | n => n, fun | 1 => 1 | n => n⟩
theorem Tryz.lays219 : Go.Proofs.Lays.n219 Tryz.prog Tryz.lays219_ren := {
 mixed := by kernel_rfl
 f217 := Tryz.func201.trans (congrArg some (by kernel_rfl))
 f219 := Tryz.func199.trans (congrArg some (by kernel_rfl))
 f224 := Tryz.func203.trans (congrArg some (by kernel_rfl))
 f225 := Tryz.func202.trans (congrArg some (by kernel_rfl))
 f266 := Tryz.func205.trans (congrArg some (by kernel_rfl))
 f267 := Tryz.func204.trans (congrArg some (by kernel_rfl))
 f314 := Tryz.func206.trans (congrArg some (by kernel_rfl))
 t3 := Tryz.underlying3
 a3 := Tryz.isAgg3
 z3 := Tryz.sizeOf3
 v3 := Tryz.zeroValue3
 t4 := Tryz.underlying4
 a4 := Tryz.isAgg4
 z4 := Tryz.sizeOf4
 v4 := Tryz.zeroValue4
 t5 := Tryz.underlying5
 a5 := Tryz.isAgg5
 z5 := Tryz.sizeOf5
 v5 := Tryz.zeroValue5
 t9 := Tryz.underlying9
 a9 := Tryz.isAgg9
 z9 := Tryz.sizeOf9
 v9 := Tryz.zeroValue9
 t46 := Tryz.underlying97
 a46 := Tryz.isAgg97
 z46 := Tryz.sizeOf97
 v46 := Tryz.zeroValue97
 t51 := Tryz.underlying83
 a51 := Tryz.isAgg83
 z51 := Tryz.sizeOf83
 v51 := Tryz.zeroValue83
 t146 := Tryz.underlying171
 a146 := Tryz.isAgg171
 z146 := Tryz.sizeOf171
 v146 := Tryz.zeroValue171
 g1 := by kernel_rfl }
open Go.RowKit Go.Lib in
theorem Tryz.stringslite_Index_one (s : ByteArray) (c : UInt8) (w : World) :
  Calls Tryz.prog 199 #[.string s, .string ⟨#[c]⟩] w fun e w' => e = .returned (.int .i64 (Lib.indexByte s.data.toList c)) ∧ w' = w := Any.stringslite_Index_one Tryz.lays219 s c w
def Tryz.lays99_ren : Go.Shelf.Ren := ⟨fun | 99 => 161 | 206 => 185 | n => n, fun | 9 => 9 | 4 => 4 | 3 => 3 | n => n, fun | n => n⟩
theorem Tryz.lays99 : Go.Proofs.Lays.n99 Tryz.prog Tryz.lays99_ren := {
 mixed := by kernel_rfl
 f99 := Tryz.func161.trans (congrArg some (by kernel_rfl))
 f206 := Tryz.func185.trans (congrArg some (by kernel_rfl))
 t3 := Tryz.underlying3
 a3 := Tryz.isAgg3
 z3 := Tryz.sizeOf3
 v3 := Tryz.zeroValue3
 t4 := Tryz.underlying4
 a4 := Tryz.isAgg4
 z4 := Tryz.sizeOf4
 v4 := Tryz.zeroValue4
 t9 := Tryz.underlying9
 a9 := Tryz.isAgg9
 z9 := Tryz.sizeOf9
 v9 := Tryz.zeroValue9 }
open Go.RowKit Go.Lib in
theorem Tryz.strings_HasPrefix (s p : ByteArray) (w : World) :
  Calls Tryz.prog 161 #[.string s, .string p] w fun e w' => e = .returned (.bool (Lib.hasPrefix s.data.toList p.data.toList)) ∧ w' = w := Any.strings_HasPrefix Tryz.lays99 s p w
end Go.Proofs
namespace Go.Proofs.YtgljdfblgpdaaaaGreatDoor
open Go.RowKit
variable {k l l1 : List Nat} {na nb : Bool} {p : Nat}
def zI (neg : Bool) (l : List Nat) : Int := if neg then -(val l : Int) else (val l : Int)
def IRes (a : World) (z : Int) (e : Ending) (w' : World) : Prop :=
 ∃ neg A c l, e = .returned (.agg #[.bool neg, .slice A l.length c]) ∧ l.length ≤ c ∧ OwnS a w' A l ∧ isB neg l = true ∧ zI neg l = z ∧ Below a.heap.size a w'
theorem ires_zero (a w : World) (h : Below a.heap.size a w) : IRes a 0 (.returned (.agg #[.bool false, .slice none 0 0])) w := ⟨false, none, 0, [], rfl, Nat.le_refl _, fun h => absurd rfl h, rfl, rfl, h⟩
theorem zI_nil (neg : Bool) : zI neg [] = 0 := by cases neg <;> rfl
theorem m6a78b {P : Prop} (h : P := by
 by_cases h0 : l.length = 0
 ·rw [if_pos h0]
  obtain rfl := List.eq_nil_of_length_eq_zero h0
  rw [zI_nil]
  exact ires_zero a w' (bt hw hb)
 ·rw [if_neg h0]
  exact ⟨neg, A, c, l, rfl, hc, hl.below hb, isB_of ht (fun h => absurd h h0), rfl, bt hw hb⟩) : P := h
theorem signed_res (a w : World) (neg : Bool) (A : Option Addr) (c : Nat) (l : List Nat) (hm : l.length ≤ 4000000) (hc : l.length ≤ c) (hl : OwnS a w A l) (ht : Top l) (hw : Below a.heap.size a w) :
  Calls Tryz.prog 89 #[.bool neg, .slice A l.length c] w (IRes a (zI neg l)) := by
 refine (signed_any neg A l.length c w hm).mono ?_
 rintro e w' ⟨rfl, hb⟩
 exact m6a78b
theorem signed_both (a w : World) (neg : Bool) (A : Option Addr) (c : Nat) (l : List Nat) (hm : l.length ≤ 4000000) (hc : l.length ≤ c) (hl : OwnS a w A l) (ht : Top l) (hw : Below a.heap.size a w) :
  Calls Tryz.prog 89 #[.bool neg, .slice A l.length c] w fun e w' => IRes a (zI neg l) e w' ∧ Below w.heap.size w w' := by
 refine (signed_any neg A l.length c w hm).mono ?_
 rintro e w' ⟨rfl, hb⟩
 refine ⟨?_, hb⟩
 exact m6a78b
theorem bln_aux : ∀ (f x : Nat), x < 2 ^ f → ∀ g, f ≤ g → Lib.bitLenAux g x = Lib.bitLenAux f x
 | 0, x, h, g, _ => by
  have : x = 0 := by simp at h; exact h
  subst this
  cases g <;> simp [Lib.bitLenAux]
 | f + 1, x, h, 0, hg => by omega
 | f + 1, x, h, g + 1, hg => by
  unfold Lib.bitLenAux
  by_cases h0 : x = 0
  ·rw [if_pos h0, if_pos h0]
  ·rw [if_neg h0, if_neg h0, bln_aux f (x / 2) (by rw [Nat.pow_succ] at h; omega) g (by omega)]
theorem bitLen_half {x : Nat} (h0 : x ≠ 0) (h : x < 18446744073709551616) : Lib.bitLen x = 1 + Lib.bitLen (x / 2) := by
 unfold Lib.bitLen
 rw [bln_aux 63 (x / 2) (by omega) 64 (by omega)]
 show Lib.bitLenAux (63 + 1) x = _
 rw [Lib.bitLenAux, if_neg h0]
theorem bitLen_zero : Lib.bitLen 0 = 0 := rfl
def bl (l : List Nat) : Nat := if l.length = 0 then 0 else 32 * (l.length - 1) + Lib.bitLen (gd l (l.length - 1))
theorem bitLen_le : ∀ (f x : Nat), Lib.bitLenAux f x ≤ f
 | 0, _ => Nat.le_refl _
 | f + 1, x => by
  unfold Lib.bitLenAux
  split
  ·omega
  ·have := bitLen_le f (x / 2); omega
theorem bitLen_any (A : Option Addr) (n c : Nat) (l : List Nat) (w : World) (hn : l.length = n) (hm : n ≤ 4000000) (hws : WS w A l) :
  Calls Tryz.prog 126 #[.slice A n c] w fun e w' => e = .returned (.int .i64 (bl l : Int)) ∧ w = w' := by
 subst hn
 by_cases h0 : l.length = 0
 ·have e : bl l = 0 := by unfold bl; rw [if_pos h0]
  rw [e, h0]
  clear e h0
  go_enter Tryz.func126, Tryz.ntmps126
  go_wp2_with fail
  go_ret
  exact ⟨rfl, rfl⟩
 ·have e : bl l = 32 * (l.length - 1) + Lib.bitLen (gd l (l.length - 1)) := by unfold bl; rw [if_neg h0]
  rw [e]
  have hz : ((l.length : Int) == 0) = false := beq_eq_false_iff_ne.2 (by omega)
  have hl1 : 1 ≤ (l.length : Int) := by omega
  have hx := hws.lt (l.length - 1)
  obtain ⟨b, off, rfl, hblt, hc⟩ := hws.at_ (by omega)
  have hc1 := hc (l.length - 1) (by omega)
  have hbl : Lib.bitLen (gd l (l.length - 1)) ≤ 64 := bitLen_le 64 _
  clear hc e
  generalize gd l (l.length - 1) = x at *
  generalize hbe : Lib.bitLen x = q at *
  have HB := Hi hbe
  clear hbe
  go_enter Tryz.func126, Tryz.ntmps126
  go_wp2_with fail
  refine (Tryz.bits_Len32 (x : Int) _ (by omega) (by omega)).mono ?_
  rintro e w1 ⟨rfl, rfl⟩
  rw [Int.toNat_natCast, HB.out]
  go_wp2_with fail
  go_ret
  exact ⟨ret_int (by omega), rfl⟩
theorem Bits_any (neg : Bool) (A : Option Addr) (n c : Nat) (l : List Nat) (p : Bool) (w : World) (hn : l.length = n) (hm : n ≤ 4000000) (hl : WS w A l) (hp : isB neg l = p) :
  Calls Tryz.prog 78 #[.agg #[.bool neg, .slice A n c]] w fun e w' => e = .returned (.int .i64 (if p then (bl l : Int) else 0)) ∧ Below w.heap.size w w' := by
 subst hn
 have HP := Hi hp
 clear hp
 cases p
 ·go_enter Tryz.func78, Tryz.ntmps78
  go_wp2_with fail
  refine (Is_any neg A _ c l _ rfl hm (hl.below (ba (b0 _) _))).mono ?_
  rintro e w1 ⟨rfl, hb⟩
  rw [HP.out]
  obtain ⟨hc1, hf1⟩ := bcell hb
  have hz1 := hb.size
  go_wp2_with fail
  go_ret
  exact ⟨rfl, bt (ba (b0 _) _) hb⟩
 ·go_enter Tryz.func78, Tryz.ntmps78
  go_wp2_with fail
  refine (Is_any neg A _ c l _ rfl hm (hl.below (ba (b0 _) _))).mono ?_
  rintro e w1 ⟨rfl, hb⟩
  rw [HP.out]
  obtain ⟨hc1, hf1⟩ := bcell hb
  have hz1 := hb.size
  go_wp2_with fail
  refine (bitLen_any A _ c l _ rfl hm (hl.below (bt (ba (b0 _) _) hb))).mono ?_
  rintro e w2 ⟨rfl, rfl⟩
  go_wp2_with fail
  go_ret
  exact ⟨rfl, bt (ba (b0 _) _) hb⟩
open Go.RowKit
variable {k l l1 : List Nat} {na nb : Bool} {p : Nat}
def sgn (p neg : Bool) (l : List Nat) : Int := if !p || l.length = 0 then 0 else if neg then -1 else 1
theorem m416ce {P : Prop} (h : P := by
 rintro e w1 ⟨rfl, hb⟩
 rw [HP.out]
 obtain ⟨hc1, hf1⟩ := bcell hb
 have hz1 := hb.size
 go_wp2_with fail
 go_ret
 exact ⟨ret_int rfl, bt (ba (b0 _) _) hb⟩) : P := h
theorem Sign_any (neg : Bool) (A : Option Addr) (n c : Nat) (l : List Nat) (p : Bool) (w : World) (hn : l.length = n) (hm : n ≤ 4000000) (hl : WS w A l) (hp : isB neg l = p) :
  Calls Tryz.prog 79 #[.agg #[.bool neg, .slice A n c]] w fun e w' => e = .returned (.int .i64 (sgn p neg l)) ∧ Below w.heap.size w w' := by
 subst hn
 have HP := Hi hp
 clear hp
 cases p
 ·go_enter Tryz.func79, Tryz.ntmps79
  go_wp2_with fail
  refine (Is_any neg A _ c l _ rfl hm (hl.below (ba (b0 _) _))).mono ?_
  rintro e w1 ⟨rfl, hb⟩
  rw [HP.out]
  obtain ⟨hc1, hf1⟩ := bcell hb
  have hz1 := hb.size
  go_wp2_with fail
  go_ret
  exact ⟨ret_int (by simp [sgn]), bt (ba (b0 _) _) hb⟩
 ·by_cases h0 : l.length = 0
  ·have e : sgn true neg l = 0 := by simp [sgn, h0]
   rw [e]
   clear e
   go_enter Tryz.func79, Tryz.ntmps79
   go_wp2_with fail
   refine (Is_any neg A _ c l _ h0 (by omega) (hl.below (ba (b0 _) _))).mono ?_
   exact m416ce
  ·have hz : ((l.length : Int) == 0) = false := beq_eq_false_iff_ne.2 (by omega)
   cases neg
   ·have e : sgn true false l = 1 := by simp [sgn, h0]
    rw [e]
    clear e h0
    go_enter Tryz.func79, Tryz.ntmps79
    go_wp2_with fail
    refine (Is_any false A _ c l _ rfl hm (hl.below (ba (b0 _) _))).mono ?_
    exact m416ce
   ·have e : sgn true true l = -1 := by simp [sgn, h0]
    rw [e]
    clear e h0
    go_enter Tryz.func79, Tryz.ntmps79
    go_wp2_with fail
    refine (Is_any true A _ c l _ rfl hm (hl.below (ba (b0 _) _))).mono ?_
    exact m416ce
def cmpI (x y : Int) : Int := if x < y then -1 else if x = y then 0 else 1
def cmpS (na nb : Bool) (l k : List Nat) : Int := if na then (if nb then cmpN (val k) (val l) else -1) else if nb then 1 else cmpN (val l) (val k)
theorem cmpS_eq (ha : isB na l = true) (hb : isB nb k = true) : cmpS na nb l k = cmpI (zI na l) (zI nb k) := by
 have pa : na = true → 0 < val l := fun h => by
  subst h
  rcases Nat.eq_zero_or_pos l.length with h0 | h0
  ·have := isB_nil ha h0; cases this
  ·exact val_pos (isB_top ha) h0
 have pb : nb = true → 0 < val k := fun h => by
  subst h
  rcases Nat.eq_zero_or_pos k.length with h0 | h0
  ·have := isB_nil hb h0; cases this
  ·exact val_pos (isB_top hb) h0
 cases na <;> cases nb <;> simp only [cmpS, cmpI, cmpN, zI] <;> simp at pa pb ⊢
 ·repeat' split
  all_goals first | rfl | omega
 ·rw [if_neg (by omega), if_neg (by omega)]
 ·omega
 ·repeat' split
  all_goals first | rfl | omega
theorem mb33b5 {P : Prop} (h : P := by
 obtain ⟨hc1, hf1⟩ := bcell hb
 have hz1 := hb.size
 go_wp2_with fail
 go_ret
 exact ⟨rfl, bt (ba (ba (b0 _) _) _) hb⟩) : P := h
theorem Cmp_any (na nb : Bool) (A B : Option Addr) (n c m d : Nat) (l k : List Nat) (p q : Bool) (w : World) (hn : l.length = n) (hm : k.length = m) (hnm : n ≤ 1000000) (hmm : m ≤ 1000000) (hl : WS w A l) (hk : WS w B k) (hp : isB na l = p) (hq : isB nb k = q) :
  Calls Tryz.prog 80 #[.agg #[.bool na, .slice A n c], .agg #[.bool nb, .slice B m d]] w fun e w' => e = .returned (.int .i64 (if p && q then cmpI (zI na l) (zI nb k) else 0)) ∧ Below w.heap.size w w' := by
 subst hn hm
 have HP := Hi hp
 have HQ := Hi hq
 clear hp hq
 by_cases hpq : (p && q) = true
 ·obtain ⟨rfl, rfl⟩ : p = true ∧ q = true := by simpa using hpq
  rw [if_pos (by rfl), ← cmpS_eq HP.out HQ.out]
  clear hpq
  cases na <;> cases nb
  ·show Calls _ _ _ _ fun e w' => e = .returned (.int .i64 (cmpN (val l) (val k))) ∧ _
   go_enter Tryz.func80, Tryz.ntmps80
   go_wp2_with fail
   refine (both_any false false A B _ c _ d l k true true _ rfl rfl (by omega) (by omega) (hl.below (ba (ba (b0 _) _) _)) (hk.below (ba (ba (b0 _) _) _)) HP.out HQ.out).mono ?_
   rintro e w1 ⟨rfl, hb⟩
   obtain ⟨hc1, hf1⟩ := bcell hb
   have hz1 := hb.size
   go_wp2_with fail
   refine (compare_any A B _ c _ d l k _ rfl rfl (by omega) (by omega) (isB_top HP.out) (isB_top HQ.out) (hl.below (bt (ba (ba (b0 _) _) _) hb)) (hk.below (bt (ba (ba (b0 _) _) _) hb))).mono ?_
   rintro e w2 ⟨rfl, hb2⟩
   go_wp2_with fail
   go_ret
   exact ⟨rfl, bt (bt (ba (ba (b0 _) _) _) hb) hb2⟩
  ·show Calls _ _ _ _ fun e w' => e = .returned (.int .i64 1) ∧ _
   go_enter Tryz.func80, Tryz.ntmps80
   go_wp2_with fail
   refine (both_any false true A B _ c _ d l k true true _ rfl rfl (by omega) (by omega) (hl.below (ba (ba (b0 _) _) _)) (hk.below (ba (ba (b0 _) _) _)) HP.out HQ.out).mono ?_
   rintro e w1 ⟨rfl, hb⟩
   exact mb33b5
  ·show Calls _ _ _ _ fun e w' => e = .returned (.int .i64 (-1)) ∧ _
   go_enter Tryz.func80, Tryz.ntmps80
   go_wp2_with fail
   refine (both_any true false A B _ c _ d l k true true _ rfl rfl (by omega) (by omega) (hl.below (ba (ba (b0 _) _) _)) (hk.below (ba (ba (b0 _) _) _)) HP.out HQ.out).mono ?_
   rintro e w1 ⟨rfl, hb⟩
   exact mb33b5
  ·show Calls _ _ _ _ fun e w' => e = .returned (.int .i64 (cmpN (val k) (val l))) ∧ _
   go_enter Tryz.func80, Tryz.ntmps80
   go_wp2_with fail
   refine (both_any true true A B _ c _ d l k true true _ rfl rfl (by omega) (by omega) (hl.below (ba (ba (b0 _) _) _)) (hk.below (ba (ba (b0 _) _) _)) HP.out HQ.out).mono ?_
   rintro e w1 ⟨rfl, hb⟩
   obtain ⟨hc1, hf1⟩ := bcell hb
   have hz1 := hb.size
   go_wp2_with fail
   refine (compare_any B A _ d _ c k l _ rfl rfl (by omega) (by omega) (isB_top HQ.out) (isB_top HP.out) (hk.below (bt (ba (ba (b0 _) _) _) hb)) (hl.below (bt (ba (ba (b0 _) _) _) hb))).mono ?_
   rintro e w2 ⟨rfl, hb2⟩
   go_wp2_with fail
   go_ret
   exact ⟨rfl, bt (bt (ba (ba (b0 _) _) _) hb) hb2⟩
 ·have hf : (p && q) = false := by simpa using hpq
  rw [if_neg hpq]
  have HF := Hi hf
  clear hpq hf
  go_enter Tryz.func80, Tryz.ntmps80
  go_wp2_with fail
  refine (both_any na nb A B _ c _ d l k p q _ rfl rfl (by omega) (by omega) (hl.below (ba (ba (b0 _) _) _)) (hk.below (ba (ba (b0 _) _) _)) HP.out HQ.out).mono ?_
  rintro e w1 ⟨rfl, hb⟩
  rw [HF.out]
  exact mb33b5
open Go.RowKit
variable {k l l1 : List Nat} {na nb : Bool} {p : Nat}
theorem box2_far {W : World} {p q : Nat} {u v : Value} (h : Box2 W p u v) (hne : p ≠ q) (x y : Value) : Box2 ((W.setCell ⟨q, 0, none⟩ x).setCell ⟨q, 1, none⟩ y) p u v :=
 ((Below.heap_setCell _ ⟨q, 1, none⟩ y p hne).trans (Below.heap_setCell _ ⟨q, 0, none⟩ x p hne)).trans h
theorem zI_mul (h : val l1 = val l * val k) : zI (na != nb) l1 = zI na l * zI nb k := by
 unfold zI
 rw [h]
 cases na <;> cases nb <;> simp [Int.mul_neg, Int.neg_mul]
def ite0 (p : Bool) (z : Int) : Int := if p then z else 0
theorem ires_store {a W0 w w2 : World} {z : Int} {ng : Bool} {A : Option Addr} {c : Nat} (hw : Below a.heap.size a w) (h0 : Below w.heap.size w W0) (hp : p < W0.heap.size) (hp2 : w.heap.size ≤ p)
  (hc : l.length ≤ c) (hl : OwnS W0 w2 A l) (hB : isB ng l = true) (hz : zI ng l = z) (hb : Below W0.heap.size W0 w2) :
  IRes a z (.returned (.agg #[.bool ng, .slice A l.length c])) ((w2.setCell ⟨p, 0, none⟩ (.bool ng)).setCell ⟨p, 1, none⟩ (.slice A l.length c)) :=
 ⟨ng, A, c, l, rfl, hc, (hl.two hp _ _).mono (bt hw h0).size, hB, hz, b2 (bt (bt hw h0) hb) (Nat.le_trans hw.size hp2) _ _⟩
theorem Of_pos (a w : World) (x : Nat) (hx : x < 9223372036854775808) (hw : Below a.heap.size a w) :
  Calls Tryz.prog 77 #[.int .i64 (x : Int)] w (IRes a (x : Int)) := by
 have hlt0 : decide ((x : Int) < 0) = false := by simp
 go_enter Tryz.func77, Tryz.ntmps77
 go_wp2_with fail
 refine (fromSingle_any _ _ x (by omega) (b0 _)).mono ?_
 rintro e w1 ⟨A, c, l, rfl, hc, ho, ht, hv, hb⟩
 have hlen : l.length ≤ 2 := top_len ht (by rw [hv]; show x < 4294967296 ^ 2; omega)
 have HV := Hi hv
 clear hv
 go_wp2_with fail
 refine (signed_res _ _ false A c l (by omega) hc ho ht hb).mono ?_
 rintro e w2 ⟨ng, A2, c2, l2, rfl, hc2, hl2, hB, hz, hb2⟩
 have hbx := (Box2.new w (.bool false) (.slice none 0 0)).below hb2
 obtain ⟨q0, q1⟩ := hbx.cs
 have f0 := hbx.free 0
 have f1 := hbx.free 1
 obtain ⟨k0, k1, k2⟩ := hbx.back (.bool ng) (.slice A2 l2.length c2)
 have HZ := Hi hz
 have HBB := Hi hB
 clear hz hB
 go_wp2_with fail
 refine bodyPost_ret (v := .agg #[.bool ng, .slice A2 l2.length c2]) (by simp [results, Tryz.results77, go_sem, k0, k2]) rfl ?_
 exact ires_store hw (ba (b0 _) _) (by simp) (Nat.le_refl _) hc2 hl2 HBB.out (by rw [HZ.out]; show (val l : Int) = _; rw [HV.out]) hb2
theorem Neg_any (a w : World) (neg : Bool) (A : Option Addr) (n c : Nat) (l : List Nat) (p : Bool) (hn : l.length = n) (hm : n ≤ 4000000) (hl : WS w A l) (hp : isB neg l = p) (hw : Below a.heap.size a w) :
  Calls Tryz.prog 82 #[.agg #[.bool neg, .slice A n c]] w (IRes a (ite0 p (-(zI neg l)))) := by
 subst hn
 have HP := Hi hp
 clear hp
 cases p
 ·rw [show ite0 false (-(zI neg l)) = 0 from rfl]
  go_enter Tryz.func82, Tryz.ntmps82
  go_wp2_with fail
  refine (Is_any neg A _ c l _ rfl hm (hl.below (ba (ba (b0 _) _) _))).mono ?_
  rintro e w1 ⟨rfl, hb⟩
  rw [HP.out]
  have hbx := (Box2.new (w.alloc (.cells #[.bool neg, .slice A l.length c] 24)) (.bool false) (.slice none 0 0)).below hb
  rw [World.size_alloc] at hbx
  obtain ⟨q0, q1⟩ := hbx.cs
  have f0 := hbx.free 0
  have f1 := hbx.free 1
  obtain ⟨k0, k1, k2⟩ := hbx.back (.bool false) (.slice none 0 0)
  go_wp2_with fail
  refine bodyPost_ret (v := .agg #[.bool false, .slice none 0 0]) (by simp [results, Tryz.results82, go_sem, k0, k2]) rfl ?_
  exact ires_zero _ _ (b2 (bt (bt hw (ba (ba (b0 _) _) _)) hb) (by have := hw.size; omega) _ _)
 ·rw [show ite0 true (-(zI neg l)) = -(zI neg l) from rfl]
  go_enter Tryz.func82, Tryz.ntmps82
  go_wp2_with fail
  refine (Is_any neg A _ c l _ rfl hm (hl.below (ba (ba (b0 _) _) _))).mono ?_
  rintro e w1 ⟨rfl, hb⟩
  rw [HP.out]
  have hbx := (Box2.new (w.alloc (.cells #[.bool neg, .slice A l.length c] 24)) (.bool false) (.slice none 0 0)).below hb
  rw [World.size_alloc] at hbx
  have hby := ((Box2.new w (.bool neg) (.slice A l.length c)).alloc (.cells #[.bool false, .slice none 0 0] 24)).below hb
  obtain ⟨y0, y1⟩ := hby.cs
  go_wp2_with fail
  have hl1 : WS w1 A l := hl.below (bt (ba (ba (b0 _) _) _) hb)
  go_region_held3 (fun W => W.cell? ⟨w.heap.size, 0, none⟩ = some (.bool neg) ∧ W.cell? ⟨w.heap.size, 1, none⟩ = some (.slice A l.length c))
   (first | exact ⟨y0, y1⟩ | exact ⟨z0, z1⟩ | exact ⟨v0, v1⟩ | go_keep)
   (first
    | (go_at_call 136; refine (own_res w1 _ A l.length c l rfl hm (isB_top HP.out) (hl1.below (bd (b0 _) _)) (bd (b0 _) _)).mono ?_; rintro e w2 ⟨A1, c1, l1, rfl, hlc1, ho1, ht1, hv1, hb2⟩; have hlen1 : l1.length ≤ l.length := top_len ht1 (by rw [hv1]; exact val_lt hl.1); have HV1 := Hi hv1; clear hv1; have hbx2 := hbx.below hb2; have z0 := (hby.below hb2).cell0; have z1 := (hby.below hb2).cell1)
    | (go_at_call 89; refine (signed_res w1 _ (!neg) A1 c1 l1 (by omega) hlc1 ?_ ht1 ?_).mono ?_; (first | exact ho1 | exact ho1.below (bd (b0 _) _)); (first | exact hb2 | exact bd hb2 _); rintro e w3 ⟨ng, A3, c3, l3, rfl, hc3, hl3, hB3, hz3, hb3⟩; have HZ3 := Hi hz3; have HB3 := Hi hB3; clear hz3 hB3; have hbx3 := hbx.below hb3; have x0 := hbx3.cell0; have x1 := hbx3.cell1; have f0 := hbx3.free 0; have f1 := hbx3.free 1; have v0 := (hby.below hb3).cell0; have v1 := (hby.below hb3).cell1))
  obtain ⟨k0, k1, k2⟩ := hbx3.back (.bool ng) (.slice A3 l3.length c3)
  go_wp2_with fail
  refine bodyPost_ret (v := .agg #[.bool ng, .slice A3 l3.length c3]) (by simp [results, Tryz.results82, go_sem, k0, k2]) rfl ?_
  refine ires_store hw (bt (ba (ba (b0 _) _) _) hb) (by have := hb.size; simp at this; omega) (by omega) hc3 hl3 HB3.out ?_ hb3
  rw [HZ3.out]
  unfold zI
  rw [HV1.out]
  cases neg <;> simp
open Go.RowKit
variable {k l l1 : List Nat} {na nb : Bool} {p : Nat}
theorem len_sum (h1 : Top l1) (hl : ∀ x ∈ l, x < 4294967296) (hk : ∀ x ∈ k, x < 4294967296) (hv : val l1 = val l + val k) : l1.length ≤ l.length + k.length + 1 := by
 refine top_len h1 ?_
 rw [hv]
 have a1 := val_lt hl
 have a2 := val_lt hk
 have a3 := BB_mono (show l.length ≤ l.length + k.length from by omega)
 have a4 := BB_mono (show k.length ≤ l.length + k.length from by omega)
 rw [BB_succ]
 have a5 := BB_pos (l.length + k.length)
 omega
theorem len_le (h1 : Top l1) (hl : ∀ x ∈ l, x < 4294967296) (hv : val l1 ≤ val l) : l1.length ≤ l.length :=
 top_len h1 (Nat.lt_of_le_of_lt hv (val_lt hl))
theorem add_same (a w : World) (na : Bool) (A B : Option Addr) (n c m d : Nat) (l k : List Nat) (hn : l.length = n) (hm : k.length = m) (hnm : n ≤ 1000000) (hmm : m ≤ 1000000) (hl : WS w A l) (hk : WS w B k) (hw : Below a.heap.size a w) :
  Calls Tryz.prog 98 #[.bool na, .slice A n c, .bool na, .slice B m d] w (IRes a (zI na l + zI na k)) := by
 subst hn hm
 have hbe : (na == na) = true := by cases na <;> rfl
 go_enter Tryz.func98, Tryz.ntmps98
 go_wp2_with fail
 refine (sum_any _ _ A B l.length c k.length d l k rfl rfl (by omega) (by omega) (hl.below (ba (b0 _) _)) (hk.below (ba (b0 _) _)) (b0 _)).mono ?_
 rintro e w2 ⟨A1, c1, l1, rfl, hlc1, ho1, ht1, hv1, hb2⟩
 have hlen1 := len_sum ht1 hl.1 hk.1 hv1
 have HV1 := Hi hv1
 clear hv1
 go_wp2_with fail
 refine (signed_res _ _ na A1 c1 l1 (by omega) hlc1 ho1 ht1 hb2).mono ?_
 rintro e w3 ⟨ng, A3, c3, l3, rfl, hc3, hl3, hB3, hz3, hb3⟩
 have HZ3 := Hi hz3
 have HB3 := Hi hB3
 clear hz3 hB3
 have hbx3 := (Box2.new w (.bool false) (.slice none 0 0)).below hb3
 obtain ⟨x0, x1⟩ := hbx3.cs
 have f0 := hbx3.free 0
 have f1 := hbx3.free 1
 obtain ⟨k0, k1, k2⟩ := hbx3.back (.bool ng) (.slice A3 l3.length c3)
 go_wp2_with fail
 refine bodyPost_ret (v := .agg #[.bool ng, .slice A3 l3.length c3]) (by simp [results, Tryz.results98, go_sem, k0, k2]) rfl ?_
 refine ires_store hw (ba (b0 _) _) (by simp) (Nat.le_refl _) hc3 hl3 HB3.out ?_ hb3
 rw [HZ3.out]
 unfold zI
 rw [HV1.out]
 cases na <;> simp <;> omega
theorem m985da {P : Prop} (h : P := by
 rintro e w3 ⟨ng, A3, c3, l3, rfl, hc3, hl3, hB3, hz3, hb3⟩
 have HZ3 := Hi hz3
 have HB3 := Hi hB3
 clear hz3 hB3
 have hbx3 := (Box2.new w (.bool false) (.slice none 0 0)).below hb3
 obtain ⟨x0, x1⟩ := hbx3.cs
 have f0 := hbx3.free 0
 have f1 := hbx3.free 1
 obtain ⟨k0, k1, k2⟩ := hbx3.back (.bool ng) (.slice A3 l3.length c3)
 go_wp2_with fail
 refine bodyPost_ret (v := .agg #[.bool ng, .slice A3 l3.length c3]) (by simp [results, Tryz.results98, go_sem, k0, k2]) rfl ?_
 refine ires_store hw (ba (b0 _) _) (by simp) (Nat.le_refl _) hc3 hl3 HB3.out ?_ hb3
 rw [HZ3.out]
 unfold zI
 rw [HV1.out]
 have := HLT.out
 cases na <;> simp <;> omega) : P := h
theorem add_other (a w : World) (na : Bool) (A B : Option Addr) (n c m d : Nat) (l k : List Nat) (hn : l.length = n) (hm : k.length = m) (hnm : n ≤ 1000000) (hmm : m ≤ 1000000) (hl : WS w A l) (hk : WS w B k) (tl : Top l) (tk : Top k) (hw : Below a.heap.size a w) :
  Calls Tryz.prog 98 #[.bool na, .slice A n c, .bool (!na), .slice B m d] w (IRes a (zI na l + zI (!na) k)) := by
 subst hn hm
 have hbe : (na == !na) = false := by cases na <;> rfl
 have HK := hk.below (ba (b0 w) (.cells #[.bool false, .slice none 0 0] 24))
 have HL := hl.below (ba (b0 w) (.cells #[.bool false, .slice none 0 0] 24))
 by_cases hlt : val l < val k
 ·have hcp : cmpN (val l) (val k) = -1 := by unfold cmpN; rw [if_pos hlt]
  have hkl : l.length ≤ k.length := len_le tl hk.1 (by omega)
  have HC := Hi hcp
  have HLT := Hi hlt
  clear hcp hlt
  go_enter Tryz.func98, Tryz.ntmps98
  go_wp2_with fail
  refine (compare_any A B l.length c k.length d l k _ rfl rfl (by omega) (by omega) tl tk HL HK).mono ?_
  rintro e w1 ⟨rfl, hb1⟩
  rw [HC.out]
  go_wp2_with fail
  refine (difference_any _ _ B A k.length d l.length c k l rfl rfl hkl (by omega) (Nat.le_of_lt HLT.out) (HK.below hb1) (HL.below hb1) hb1).mono ?_
  rintro e w2 ⟨A1, c1, l1, rfl, hlc1, ho1, ht1, hv1, hb2⟩
  have hlen1 := len_le ht1 hk.1 (by rw [hv1]; omega)
  have HV1 := Hi hv1
  clear hv1
  go_wp2_with fail
  refine (signed_res _ _ (!na) A1 c1 l1 (by omega) hlc1 ho1 ht1 hb2).mono ?_
  exact m985da
 ·have hcp : cmpN (val l) (val k) = 0 ∨ cmpN (val l) (val k) = 1 := by
   unfold cmpN
   rw [if_neg hlt]
   split
   ·exact .inl rfl
   ·exact .inr rfl
  have hkl : k.length ≤ l.length := len_le tk hl.1 (by omega)
  obtain ⟨q, hq0, hq⟩ : ∃ q : Int, 0 ≤ q ∧ cmpN (val l) (val k) = q := by
   rcases hcp with h | h
   ·exact ⟨0, by omega, h⟩
   ·exact ⟨1, by omega, h⟩
  have HC := Hi hq
  have HLT := Hi hlt
  clear hcp hlt hq
  go_enter Tryz.func98, Tryz.ntmps98
  go_wp2_with fail
  refine (compare_any A B l.length c k.length d l k _ rfl rfl (by omega) (by omega) tl tk HL HK).mono ?_
  rintro e w1 ⟨rfl, hb1⟩
  rw [HC.out]
  go_wp2_with fail
  refine (difference_any _ _ A B l.length c k.length d l k rfl rfl hkl (by omega) (Nat.le_of_not_lt HLT.out) (HL.below hb1) (HK.below hb1) hb1).mono ?_
  rintro e w2 ⟨A1, c1, l1, rfl, hlc1, ho1, ht1, hv1, hb2⟩
  have hlen1 := len_le ht1 hl.1 (by rw [hv1]; omega)
  have HV1 := Hi hv1
  clear hv1
  go_wp2_with fail
  refine (signed_res _ _ na A1 c1 l1 (by omega) hlc1 ho1 ht1 hb2).mono ?_
  exact m985da
theorem add_any (a w : World) (na nb : Bool) (A B : Option Addr) (n c m d : Nat) (l k : List Nat) (hn : l.length = n) (hm : k.length = m) (hnm : n ≤ 1000000) (hmm : m ≤ 1000000) (hl : WS w A l) (hk : WS w B k) (tl : Top l) (tk : Top k) (hw : Below a.heap.size a w) :
  Calls Tryz.prog 98 #[.bool na, .slice A n c, .bool nb, .slice B m d] w (IRes a (zI na l + zI nb k)) := by
 by_cases h : nb = na
 ·subst h; exact add_same a w nb A B n c m d l k hn hm hnm hmm hl hk hw
 ·obtain rfl : nb = !na := by cases na <;> cases nb <;> simp_all
  exact add_other a w na A B n c m d l k hn hm hnm hmm hl hk tl tk hw
theorem mb4718 {P : Prop} (h : P := by
 exact ires_zero _ _ (b2 (bt (bt hw (ba (ba (ba (b0 _) _) _) _)) hb) (by have := hw.size; omega) _ _)) : P := h
theorem Add_any (a w : World) (na nb : Bool) (A B : Option Addr) (n c m d : Nat) (l k : List Nat) (p q : Bool) (hn : l.length = n) (hm : k.length = m) (hnm : n ≤ 1000000) (hmm : m ≤ 1000000) (hl : WS w A l) (hk : WS w B k) (hp : isB na l = p) (hq : isB nb k = q) (hw : Below a.heap.size a w) :
  Calls Tryz.prog 18 #[.agg #[.bool na, .slice A n c], .agg #[.bool nb, .slice B m d]] w (IRes a (ite0 (p && q) (zI na l + zI nb k))) := by
 subst hn hm
 have HP := Hi hp
 have HQ := Hi hq
 clear hp hq
 by_cases hpq : (p && q) = true
 ·obtain ⟨rfl, rfl⟩ : p = true ∧ q = true := by simpa using hpq
  clear hpq
  rw [show ite0 (true && true) (zI na l + zI nb k) = zI na l + zI nb k from rfl]
  go_enter Tryz.func18, Tryz.ntmps18
  go_wp2_with fail
  refine (both_any na nb A B _ c _ d l k true true _ rfl rfl (by omega) (by omega) (hl.below (ba (ba (ba (b0 _) _) _) _)) (hk.below (ba (ba (ba (b0 _) _) _) _)) HP.out HQ.out).mono ?_
  rintro e w1 ⟨rfl, hb⟩
  have hbx := (Box2.new ((w.alloc (.cells #[.bool na, .slice A l.length c] 24)).alloc (.cells #[.bool nb, .slice B k.length d] 24)) (.bool false) (.slice none 0 0)).below hb
  rw [World.size_alloc, World.size_alloc] at hbx
  have hby := (((Box2.new w (.bool na) (.slice A l.length c)).alloc (.cells #[.bool nb, .slice B k.length d] 24)).alloc (.cells #[.bool false, .slice none 0 0] 24)).below hb
  have hbz := ((Box2.new (w.alloc (.cells #[.bool na, .slice A l.length c] 24)) (.bool nb) (.slice B k.length d)).alloc (.cells #[.bool false, .slice none 0 0] 24)).below hb
  rw [World.size_alloc] at hbz
  obtain ⟨y0, y1⟩ := hby.cs
  obtain ⟨y2, y3⟩ := hbz.cs
  have hl1 : WS w1 A l := hl.below (bt (ba (ba (ba (b0 _) _) _) _) hb)
  have hk1 : WS w1 B k := hk.below (bt (ba (ba (ba (b0 _) _) _) _) hb)
  go_wp2_with fail
  refine (add_any w1 _ na nb A B l.length c k.length d l k rfl rfl hnm hmm hl1 hk1 (isB_top HP.out) (isB_top HQ.out) (b0 _)).mono ?_
  rintro e w3 ⟨ng, A3, c3, l3, rfl, hc3, hl3, hB3, hz3, hb3⟩
  have HZ3 := Hi hz3
  have HB3 := Hi hB3
  clear hz3 hB3
  have hbx3 := hbx.below hb3
  obtain ⟨x0, x1⟩ := hbx3.cs
  have f0 := hbx3.free 0
  have f1 := hbx3.free 1
  obtain ⟨k0, k1, k2⟩ := hbx3.back (.bool ng) (.slice A3 l3.length c3)
  go_wp2_with fail
  refine bodyPost_ret (v := .agg #[.bool ng, .slice A3 l3.length c3]) (by simp [results, Tryz.results18, go_sem, k0, k2]) rfl ?_
  exact ires_store hw (bt (ba (ba (ba (b0 _) _) _) _) hb) (by have := hb.size; simp at this; omega) (by omega) hc3 hl3 HB3.out HZ3.out hb3
 ·have hf : (p && q) = false := by simpa using hpq
  rw [hf, show ite0 false (zI na l + zI nb k) = 0 from rfl]
  have HF := Hi hf
  clear hpq hf
  go_enter Tryz.func18, Tryz.ntmps18
  go_wp2_with fail
  refine (both_any na nb A B _ c _ d l k p q _ rfl rfl (by omega) (by omega) (hl.below (ba (ba (ba (b0 _) _) _) _)) (hk.below (ba (ba (ba (b0 _) _) _) _)) HP.out HQ.out).mono ?_
  rintro e w1 ⟨rfl, hb⟩
  rw [HF.out]
  have hbx := (Box2.new ((w.alloc (.cells #[.bool na, .slice A l.length c] 24)).alloc (.cells #[.bool nb, .slice B k.length d] 24)) (.bool false) (.slice none 0 0)).below hb
  rw [World.size_alloc, World.size_alloc] at hbx
  obtain ⟨q0, q1⟩ := hbx.cs
  have f0 := hbx.free 0
  have f1 := hbx.free 1
  obtain ⟨k0, k1, k2⟩ := hbx.back (.bool false) (.slice none 0 0)
  go_wp2_with fail
  refine bodyPost_ret (v := .agg #[.bool false, .slice none 0 0]) (by simp [results, Tryz.results18, go_sem, k0, k2]) rfl ?_
  exact mb4718
theorem Sub_any (a w : World) (na nb : Bool) (A B : Option Addr) (n c m d : Nat) (l k : List Nat) (p q : Bool) (hn : l.length = n) (hm : k.length = m) (hnm : n ≤ 1000000) (hmm : m ≤ 1000000) (hl : WS w A l) (hk : WS w B k) (hp : isB na l = p) (hq : isB nb k = q) (hw : Below a.heap.size a w) :
  Calls Tryz.prog 20 #[.agg #[.bool na, .slice A n c], .agg #[.bool nb, .slice B m d]] w (IRes a (ite0 (p && q) (zI na l - zI nb k))) := by
 subst hn hm
 have HP := Hi hp
 have HQ := Hi hq
 clear hp hq
 by_cases hpq : (p && q) = true
 ·obtain ⟨rfl, rfl⟩ : p = true ∧ q = true := by simpa using hpq
  clear hpq
  rw [show ite0 (true && true) (zI na l - zI nb k) = zI na l - zI nb k from rfl]
  go_enter Tryz.func20, Tryz.ntmps20
  go_wp2_with fail
  refine (both_any na nb A B _ c _ d l k true true _ rfl rfl (by omega) (by omega) (hl.below (ba (ba (ba (b0 _) _) _) _)) (hk.below (ba (ba (ba (b0 _) _) _) _)) HP.out HQ.out).mono ?_
  rintro e w1 ⟨rfl, hb⟩
  have hbx := (Box2.new ((w.alloc (.cells #[.bool na, .slice A l.length c] 24)).alloc (.cells #[.bool nb, .slice B k.length d] 24)) (.bool false) (.slice none 0 0)).below hb
  rw [World.size_alloc, World.size_alloc] at hbx
  have hby := (((Box2.new w (.bool na) (.slice A l.length c)).alloc (.cells #[.bool nb, .slice B k.length d] 24)).alloc (.cells #[.bool false, .slice none 0 0] 24)).below hb
  have hbz := ((Box2.new (w.alloc (.cells #[.bool na, .slice A l.length c] 24)) (.bool nb) (.slice B k.length d)).alloc (.cells #[.bool false, .slice none 0 0] 24)).below hb
  rw [World.size_alloc] at hbz
  obtain ⟨y0, y1⟩ := hby.cs
  obtain ⟨y2, y3⟩ := hbz.cs
  have hl1 : WS w1 A l := hl.below (bt (ba (ba (ba (b0 _) _) _) _) hb)
  have hk1 : WS w1 B k := hk.below (bt (ba (ba (ba (b0 _) _) _) _) hb)
  go_wp2_with fail
  refine (add_any w1 _ na (!nb) A B l.length c k.length d l k rfl rfl hnm hmm hl1 hk1 (isB_top HP.out) (isB_top HQ.out) (b0 _)).mono ?_
  rintro e w3 ⟨ng, A3, c3, l3, rfl, hc3, hl3, hB3, hz3, hb3⟩
  have HZ3 := Hi hz3
  have HB3 := Hi hB3
  clear hz3 hB3
  have hbx3 := hbx.below hb3
  obtain ⟨x0, x1⟩ := hbx3.cs
  have f0 := hbx3.free 0
  have f1 := hbx3.free 1
  obtain ⟨k0, k1, k2⟩ := hbx3.back (.bool ng) (.slice A3 l3.length c3)
  go_wp2_with fail
  refine bodyPost_ret (v := .agg #[.bool ng, .slice A3 l3.length c3]) (by simp [results, Tryz.results20, go_sem, k0, k2]) rfl ?_
  exact ires_store hw (bt (ba (ba (ba (b0 _) _) _) _) hb) (by have := hb.size; simp at this; omega) (by omega) hc3 hl3 HB3.out (by rw [HZ3.out]; unfold zI; cases nb <;> simp <;> omega) hb3
 ·have hf : (p && q) = false := by simpa using hpq
  rw [hf, show ite0 false (zI na l - zI nb k) = 0 from rfl]
  have HF := Hi hf
  clear hpq hf
  go_enter Tryz.func20, Tryz.ntmps20
  go_wp2_with fail
  refine (both_any na nb A B _ c _ d l k p q _ rfl rfl (by omega) (by omega) (hl.below (ba (ba (ba (b0 _) _) _) _)) (hk.below (ba (ba (ba (b0 _) _) _) _)) HP.out HQ.out).mono ?_
  rintro e w1 ⟨rfl, hb⟩
  rw [HF.out]
  have hbx := (Box2.new ((w.alloc (.cells #[.bool na, .slice A l.length c] 24)).alloc (.cells #[.bool nb, .slice B k.length d] 24)) (.bool false) (.slice none 0 0)).below hb
  rw [World.size_alloc, World.size_alloc] at hbx
  obtain ⟨q0, q1⟩ := hbx.cs
  have f0 := hbx.free 0
  have f1 := hbx.free 1
  obtain ⟨k0, k1, k2⟩ := hbx.back (.bool false) (.slice none 0 0)
  go_wp2_with fail
  refine bodyPost_ret (v := .agg #[.bool false, .slice none 0 0]) (by simp [results, Tryz.results20, go_sem, k0, k2]) rfl ?_
  exact mb4718
end Go.Proofs.YtgljdfblgpdaaaaGreatDoor
