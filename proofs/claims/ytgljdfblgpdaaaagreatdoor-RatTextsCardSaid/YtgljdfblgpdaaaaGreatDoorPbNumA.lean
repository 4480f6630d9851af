import Derived.Laws.BitsAllLaws
import Derived.OwnWalk
import Derived.Test.YtgljdfblgpdaaaaGreatDoorRows
import Derived.Test.YtgljdfblgpdaaaaGreatDoorPbNumMac
set_option linter.unusedSimpArgs false
set_option linter.unusedVariables false
set_option maxRecDepth 100000
set_option maxHeartbeats 4000000
namespace Go.Proofs.YtgljdfblgpdaaaaGreatDoor
open Go.RowKit
theorem m86229 {P : Prop} (h : P := by
 go_wp2
 go_ret
 exact ⟨ret_bool E1.out.symm, (Below.refl _ _).alloc (Nat.le_refl _) _⟩) : P := h
theorem Is_any (neg : Bool) (A : Option Addr) (n c : Nat) (l : List Nat) (w : World) (hn : l.length = n) (hm : n ≤ 4000000) (hws : WS w A l) :
  Calls Tryz.prog 81 #[.agg #[.bool neg, .slice A n c]] w fun e w' => e = .returned (.bool (isB neg l)) ∧ Below w.heap.size w w' := by
 subst hn
 by_cases h0 : l.length = 0
 ·have e1 : isB neg l = !neg := by unfold isB; rw [if_pos h0]
  have E1 := Hi e1
  clear e1
  rw [h0]
  clear h0
  go_enter Tryz.func81, Tryz.ntmps81
  exact m86229
 ·obtain ⟨b, off, rfl, hlt, hc⟩ := hws.at_ (by omega)
  have e1 : isB neg l = (((gd l (l.length - 1) : Nat) : Int) != 0) := by unfold isB; rw [if_neg h0]
  have E1 := Hi e1
  have hc1 := hc (l.length - 1) (by omega)
  have hz : ((l.length : Int) == 0) = false := beq_eq_false_iff_ne.2 (by omega)
  have hl1 : 1 ≤ (l.length : Int) := by omega
  have hx := hws.lt (l.length - 1)
  clear e1 hc
  generalize hl : gd l (l.length - 1) = x at *
  clear hl
  go_enter Tryz.func81, Tryz.ntmps81
  exact m86229
theorem both_any (na nb : Bool) (A B : Option Addr) (n c m d : Nat) (l k : List Nat) (p q : Bool) (w : World) (hn : l.length = n) (hm : k.length = m) (hnm : n ≤ 4000000) (hmm : m ≤ 4000000) (hl : WS w A l) (hk : WS w B k) (hp : isB na l = p) (hq : isB nb k = q) :
  Calls Tryz.prog 85 #[.agg #[.bool na, .slice A n c], .agg #[.bool nb, .slice B m d]] w fun e w' => e = .returned (.bool (p && q)) ∧ Below w.heap.size w w' := by
 subst hn hm
 have HP := Hi hp
 have HQ := Hi hq
 clear hp hq
 cases p
 ·go_enter Tryz.func85, Tryz.ntmps85
  go_wp2_with (go_at_call 81; refine (Is_any na A _ c l _ rfl hnm (hl.below (by go_grown))).mono ?_; rintro e w1 ⟨rfl, hb⟩; rw [HP.out]; obtain ⟨hc1, hf1⟩ := bcell hb; have hz1 := hb.size)
  go_ret
  exact ⟨rfl, bt (ba (ba (b0 _) _) _) hb⟩
 ·go_enter Tryz.func85, Tryz.ntmps85
  go_wp2_with fail
  refine (Is_any na A _ c l _ rfl hnm (hl.below (by go_grown))).mono ?_
  rintro e w1 ⟨rfl, hb⟩
  rw [HP.out]
  obtain ⟨hc1, hf1⟩ := bcell hb
  have hz1 := hb.size
  go_wp2_with fail
  refine (Is_any nb B _ d k _ rfl hmm (hk.below (bt (ba (ba (b0 _) _) _) hb))).mono ?_
  rintro e w2 ⟨rfl, hb2⟩
  rw [HQ.out]
  go_wp2_with fail
  go_ret
  exact ⟨ret_bool (by simp), bt (bt (ba (ba (b0 _) _) _) hb) hb2⟩
theorem wordAt_any (A : Option Addr) (n c : Nat) (i : Int) (l : List Nat) (w : World) (hn : l.length = n) (hm : n ≤ 4000000) (hi : 0 ≤ i) (hi2 : i ≤ 4000000) (hws : WS w A l) :
  Calls Tryz.prog 168 #[.slice A n c, .int .i64 i] w fun e w' => e = .returned (.int .u32 ((gd l i.toNat : Nat) : Int)) ∧ w = w' := by
 subst hn
 obtain ⟨j, rfl⟩ := Int.eq_ofNat_of_zero_le hi
 by_cases h0 : j < l.length
 ·obtain ⟨b, off, rfl, hlt, hc⟩ := hws.at_ (by omega)
  have hc1 := hc j h0
  rw [Int.toNat_natCast]
  clear hc
  go_enter Tryz.func168, Tryz.ntmps168
  go_wp2
  go_ret
  exact ⟨rfl, rfl⟩
 ·have e : gd l j = 0 := gd_end (by omega)
  have E := Hi e
  clear e
  rw [Int.toNat_natCast, E.out]
  go_enter Tryz.func168, Tryz.ntmps168
  go_wp2
  go_ret
  exact ⟨rfl, rfl⟩
theorem signed_any (neg : Bool) (A : Option Addr) (n c : Nat) (w : World) (hm : n ≤ 4000000) :
  Calls Tryz.prog 89 #[.bool neg, .slice A n c] w fun e w' => e = .returned (if n = 0 then .agg #[.bool false, .slice none 0 0] else .agg #[.bool neg, .slice A n c]) ∧ Below w.heap.size w w' := by
 by_cases h0 : n = 0
 ·subst h0
  go_enter Tryz.func89, Tryz.ntmps89
  go_wp2
  go_returns
  exact ⟨rfl, ba (b0 _) _⟩
 ·rw [if_neg h0]
  have hz : ((n : Int) == 0) = false := beq_eq_false_iff_ne.2 (by omega)
  go_enter Tryz.func89, Tryz.ntmps89
  go_wp2
  go_returns
  exact ⟨rfl, ba (b0 _) _⟩
def TrimP (A : Option Addr) (n c : Nat) (l : List Nat) (w : World) (e : Ending) (w' : World) : Prop :=
 (∃ k, k ≤ n ∧ e = .returned (.slice A k c) ∧ (0 < k → gd l (k - 1) ≠ 0) ∧ (∀ j, k ≤ j → gd l j = 0)) ∧ w = w'
theorem m62242 {P : Prop} (h : P := by
 go_wp2
 go_loop [3] (fun n => ∃ k : Nat, k ≤ l.length ∧ n = .int .i64 k ∧ ∀ j, k ≤ j → gd l j = 0) (fun n => (intOf n).toNat)
 case atStart => exact ⟨l.length, Nat.le_refl _, rfl, fun j hj => gd_end hj⟩
 case round =>
  obtain ⟨k, hk, rfl, hz⟩ := hrel
  have HZ := Hi hz
  clear hz
  rcases Nat.eq_zero_or_pos k with rfl | h0
  ·go_wp2
   go_ret
   exact ⟨⟨0, by omega, rfl, fun h => absurd h (by omega), HZ.out⟩, rfl⟩
  ·obtain ⟨b, off, rfl, hlt, hc⟩ := hws.at_ (by omega)
   have hc1 := hc (k - 1) (by omega)
   have hx2 := hws.lt (k - 1)
   clear hc
   by_cases hx0 : gd l (k - 1) = 0
   ·have H0 := Hi hx0
    rw [hx0] at hc1
    clear hx0
    go_wp2
    go_round
    case rel =>
     refine ⟨k - 1, by omega, by go_num, fun j hj => ?_⟩
     rcases Nat.lt_or_ge j k with h1 | h1
     ·have : j = k - 1 := by omega
      rw [this]; exact H0.out
     ·exact HZ.out j h1
    case measure => simp [intOf]; omega
   ·have H0 := Hi hx0
    have hz1 : (((gd l (k - 1) : Nat) : Int) == 0) = false := beq_eq_false_iff_ne.2 (by omega)
    clear hx0
    go_wp2
    go_ret
    exact ⟨⟨k, by omega, rfl, fun _ => H0.out, HZ.out⟩, rfl⟩) : P := h
theorem trim_any (A : Option Addr) (n c : Nat) (l : List Nat) (w : World) (hn : l.length = n) (hm : n ≤ 4000000) (hnc : n ≤ c) (hws : WS w A l) :
  Calls Tryz.prog 139 #[.slice A n c] w (TrimP A n c l w) := by
 subst hn
 go_enter Tryz.func139, Tryz.ntmps139
 exact m62242
theorem trim_own (a w : World) (g n c : Nat) (L : List Nat) (N : Nat) (hm : n ≤ 4000000) (hnc : n ≤ c) (hg : a.heap.size ≤ g) (hb : Blk w g L) (hn : n ≤ L.length) (hv : val (L.take n) = N) (hw : Below a.heap.size a w) :
  Calls Tryz.prog 139 #[.slice (some ⟨g, 0, none⟩) n c] w (Res a N) := by
 have hws := hb.ws (o := 0) (n := n) (by omega)
 rw [List.drop_zero] at hws
 refine (trim_any (some ⟨g, 0, none⟩) n c (L.take n) w (by rw [List.length_take]; omega) hm hnc hws).mono ?_
 rintro e w' ⟨⟨k, hk, rfl, ht, hz⟩, rfl⟩
 have hl : ((L.take n).take k).length = k := by rw [List.length_take, List.length_take]; omega
 refine ⟨some ⟨g, 0, none⟩, c, (L.take n).take k, by rw [hl], by omega, fun _ => ⟨g, L, rfl, hg, hb, ?_, by omega⟩, fun h0 => ?_, by rw [val_take_top _ _ hz, hv], hw⟩
 ·rw [hl, List.take_take, Nat.min_eq_left hk]
 ·rw [hl] at h0 ⊢
  rw [gd_take (by omega)]
  exact ht h0
open Go.RowKit
theorem info_w : (Tryz.prog.info? 83).map (fun i => (i.zero, i.size, i.bytes)) = some (some (.int .u32 0), 1, 4) := by kernel_rfl
def zer (n : Nat) : List Nat := List.replicate n 0
theorem zer_length (n : Nat) : (zer n).length = n := by simp [zer]
theorem zer_lt (n : Nat) : ∀ x ∈ zer n, x < 4294967296 := by
 intro x hx
 simp only [zer, List.mem_replicate] at hx
 omega
theorem val_zer (n : Nat) : val (zer n) = 0 := by
 induction n with
 | zero => rfl
 | succ n ih =>
  unfold zer at ih ⊢
  simp only [List.replicate_succ, val, ih]
theorem run_mk (N : Int) (n : Nat) (hN : N = n) (hn : n ≤ 4000000) (w : World) :
  (Instr.makeSlice 22 (.int .i64 N) (.int .i64 N)).run Tryz.prog w = .ok (.slice (some ⟨w.heap.size, 0, none⟩) n n) (w.alloc (.cells (words (zer n)) 83)) := by
 subst hN
 obtain ⟨i, hi, hz, hs, hb⟩ := info_parts info_w
 have h := run_make (P := Tryz.prog) w 22 83 i (.int .u32 0) Tryz.underlying22 hi hz .i64 .i64 n n (by omega) (by omega) (by rw [hb]; omega) (by omega)
 rw [Int.toNat_natCast, hs, Nat.mul_one] at h
 rw [h]
 have e : madeCells (Value.int .u32 0).cells n = words (zer n) := by
  apply Array.ext
  ·simp [words, zer_length, size_madeCells]
  ·intro j h1 h2
   simp [madeCells, words, zer, Value.cells, Nat.mod_one]
 rw [e]
theorem Blk.new (w : World) (L : List Nat) (h : ∀ x ∈ L, x < 4294967296) : Blk (w.alloc (.cells (words L) 83)) w.heap.size L := ⟨h, heap_alloc_new w _⟩
theorem Blk.alloc {w : World} {g : Nat} {L : List Nat} (h : Blk w g L) (o : Obj) : Blk (w.alloc o) g L := h.below (ba (b0 _) _)
theorem row_step {vS K r t x y z vs vl : Nat} (hv : vS + K * r = vs + y * vl) (ht : t = x * y + z + r) :
  vS + K * (t % 4294967296) + K * 4294967296 * (t / 4294967296) = vs + K * z + y * (vl + K * x) := by
 have h1 : K * (t % 4294967296) + K * 4294967296 * (t / 4294967296) = K * t := by
  rw [Nat.mul_assoc, ← Nat.mul_add, Nat.mod_add_div]
 rw [Nat.add_assoc, h1, ht]
 have h2 : K * (x * y + z + r) = K * (x * y) + K * z + K * r := by rw [Nat.mul_add, Nat.mul_add]
 have h3 : y * (vl + K * x) = y * vl + K * (x * y) := by rw [Nat.mul_add, Nat.mul_comm x y, Nat.mul_left_comm]
 omega
theorem m638c3 {P : Prop} (h : P := by
 rw [← HS.out] at h ⊢
 rw [spl_set _ (by rw [HS.out]; omega)] at h
 exact h) : P := h
theorem addRow_any (g o m d : Nat) (L : List Nat) (A : Option Addr) (n c : Nat) (l : List Nat) (y : Nat) (w : World) (hn : l.length = n) (hm : n ≤ m) (hm2 : m ≤ 4000000) (hL : o + m ≤ L.length) (hy : y < 4294967296)
  (hg : Blk w g L) (hl : WS w A l) (ho : Off A l g) :
  Calls Tryz.prog 179 #[.slice (some ⟨g, o, none⟩) m d, .slice A n c, .int .u32 (y : Int)] w fun e w' =>
   ∃ (S : List Nat) (r : Nat), e = .returned (.int .u32 (r : Int)) ∧ r < 4294967296 ∧ S.length = n ∧ (∀ x ∈ S, x < 4294967296) ∧ val S + BB n * r = val (seg L o n) + y * val l ∧ Blk w' g (spl L o S) ∧ Only g w w' := by
 subst hn
 go_enter Tryz.func179, Tryz.ntmps179
 go_wp2
 go_loopw [7, 13] (fun cv iv wr => ∃ (k : Nat) (S : List Nat) (r : Nat), k ≤ l.length ∧ iv = .int .i64 k ∧ cv = .int .u64 (r : Int) ∧ r < 4294967296 ∧ S.length = k ∧ (∀ x ∈ S, x < 4294967296) ∧ val S + BB k * r = val (seg L o k) + y * val (l.take k) ∧ Blk wr g (spl L o S) ∧ Only g w wr) (fun _ iv _ => l.length - (intOf iv).toNat)
 case atStart => exact ⟨0, [], 0, Nat.zero_le _, rfl, rfl, by omega, rfl, by simp, by simp [seg_zero, val], by rw [spl_nil]; exact hg, only_refl _ _⟩
 case round =>
  obtain ⟨k, S, r, hk, rfl, rfl, hr, hS, hSw, hv, hb, hO⟩ := hrel
  by_cases hlt : k < l.length
  ·obtain ⟨b, off, rfl, hblt, hc⟩ := (hl.only hO ho).at_ (by omega)
   have hc1 := hc k hlt
   have hc2 := hb.cell (i := o + k) (by rw [spl_length (by omega)]; omega)
   have hf2 := hb.free (o + k)
   rw [spl_get (by omega) (by omega)] at hc2
   have hx := hl.lt k
   have hz := getD_lt hg.1 (o + k)
   have H1 := Hi (val_take l hlt)
   have H2 := Hi (val_seg_succ L o (k := k) (by omega))
   clear hc
   generalize gd l k = x at *
   generalize gd L (o + k) = z at *
   have hxy := Nat.mul_le_mul (Nat.le_of_lt_succ hx) (Nat.le_of_lt_succ hy)
   obtain ⟨p, hp⟩ : ∃ p, p = x * y := ⟨_, rfl⟩
   have hpi : (x : Int) * (y : Int) = (p : Int) := by rw [hp]; simp
   have hpl : p ≤ 18446744065119617025 := by omega
   have HP := Hi hp
   have HS := Hi hS
   have HV := Hi hv
   clear hp hxy hv hS
   go_wp2
   go_roundw
   case rel =>
    have et : (p + z + r) % 4294967296 < 4294967296 := Nat.mod_lt _ (by decide)
    refine ⟨k + 1, S ++ [(p + z + r) % 4294967296], (p + z + r) / 4294967296, by omega, by go_num, by go_num, by omega, by simp [HS.out], words_snoc hSw et, ?_, ?_, hO.set_ (.inl rfl) _⟩
    ·rw [val_snoc, HS.out, H2.out, H1.out, BB_succ]
     exact row_step HV.out (by rw [HP.out])
    ·have h := hb.set_ (i := o + k) et
     exact m638c3
   case measure => simp [intOf]; omega
  ·have he : k = l.length := by omega
   subst he
   go_wp2
   go_ret
   rw [List.take_length] at hv
   exact ⟨S, r, ret_int (by omega), hr, hS, hSw, hv, hb, hO⟩
open Go.RowKit
theorem addr_add (b o j : Nat) : (⟨b, o, none⟩ : Addr).add j = ⟨b, o + j, none⟩ := by unfold Addr.add; split <;> simp_all
theorem or64 (x y : Nat) (hx : x < 4294967296) (hy : y < 4294967296) : bits BinOp.or IntKind.u64 (x : Int) ((y : Int) * 4294967296) = ((x + 4294967296 * y : Nat) : Int) := by
 have h := u64_or_nat x (y * 4294967296) (by omega) (by omega)
 rw [show ((y : Int) * 4294967296) = ((y * 4294967296 : Nat) : Int) from by simp, h]
 congr 1
 have h2 := Nat.shiftLeft_add_eq_or_of_lt (i := 32) (b := x) (by simpa using hx) y
 rw [Nat.shiftLeft_eq] at h2
 rw [Nat.or_comm, show y * 4294967296 = y * 2 ^ 32 from rfl, ← h2]
 omega
theorem or64' (x y : Nat) (hx : x < 4294967296) (hy : y < 4294967296) : bits BinOp.or IntKind.u64 ((y : Int) * 4294967296) (x : Int) = ((x + 4294967296 * y : Nat) : Int) := by
 have h := u64_or_nat (y * 4294967296) x (by omega) (by omega)
 rw [show ((y : Int) * 4294967296) = ((y * 4294967296 : Nat) : Int) from by simp, h]
 congr 1
 have h2 := Nat.shiftLeft_add_eq_or_of_lt (i := 32) (b := x) (by simpa using hx) y
 rw [Nat.shiftLeft_eq] at h2
 rw [show y * 4294967296 = y * 2 ^ 32 from rfl, ← h2]
 omega
theorem fromSingle_any (a w : World) (x : Nat) (hx : x < 18446744073709551616) (hw : Below a.heap.size a w) :
  Calls Tryz.prog 134 #[.int .u64 (x : Int)] w (Res a x) := by
 have hd : x / 4294967296 < 4294967296 := by omega
 have hmd : x % 4294967296 < 4294967296 := Nat.mod_lt _ (by decide)
 go_enter Tryz.func134, Tryz.ntmps134
 go_wp2_with fail
 rw [show (#[Value.int IntKind.u32 (↑x % 4294967296), Value.int IntKind.u32 (↑x / 4294967296)] : Array Value) = words [x % 4294967296, x / 4294967296] from by simp [words]]
 have hb := Blk.new w [x % 4294967296, x / 4294967296] (by simp; omega)
 refine (trim_own a _ w.heap.size 2 2 [x % 4294967296, x / 4294967296] x (by omega) (by omega) hw.size hb (by simp) ?_ (ba hw _)).mono ?_
 ·simp [val]; omega
 ·rintro e w1 h
  obtain ⟨A, c, l, rfl, hR⟩ := h
  go_wp2_with fail
  go_ret
  exact ⟨A, c, l, rfl, hR⟩
theorem single_any (A : Option Addr) (n c : Nat) (l : List Nat) (w : World) (hn : l.length = n) (hm : n ≤ 4000000) (hws : WS w A l) :
  Calls Tryz.prog 133 #[.slice A n c] w fun e w' => e = .returned (.int .u64 ((gd l 0 + 4294967296 * gd l 1 : Nat) : Int)) ∧ w = w' := by
 subst hn
 have h0 := hws.lt 0
 have h1 := hws.lt 1
 go_enter Tryz.func133, Tryz.ntmps133
 go_wp2_with fail
 refine (wordAt_any A _ c 0 l _ rfl hm (by omega) (by omega) hws).mono ?_
 rintro e w1 ⟨rfl, rfl⟩
 go_wp2_with fail
 refine (wordAt_any A _ c 1 l _ rfl hm (by omega) (by omega) hws).mono ?_
 rintro e w1 ⟨rfl, rfl⟩
 go_wp2_with fail
 go_ret
 have hbits : bits BinOp.or IntKind.u64 ((gd l 0 : Nat) : Int) (((gd l 1 : Nat) : Int) * 4294967296) = ((gd l 0 + 4294967296 * gd l 1 : Nat) : Int) := or64 _ _ h0 h1
 exact ⟨ret_int hbits, rfl⟩
theorem words_getElem? (l : List Nat) (j : Nat) (v : Value) (h : (l.map fun (x : Nat) => Value.int .u32 (x : Int))[j]? = some v) : j < l.length ∧ v = .int .u32 ((gd l j : Nat) : Int) := by
 rw [List.getElem?_map] at h
 rcases Nat.lt_or_ge j l.length with h1 | h1
 ·rw [List.getElem?_eq_getElem h1] at h
  cases h
  exact ⟨h1, by rw [gd_at h1]⟩
 ·rw [List.getElem?_eq_none h1] at h; cases h
theorem run_copy_all (w W : World) (g : Nat) (L : List Nat) (A : Option Addr) (c : Nat) (l : List Nat) (hL : L.length = l.length) (hb : Blk W g L) (hl : WS W A l) (hw : Below w.heap.size w W) (hg : w.heap.size ≤ g) :
  ∃ W1, (Builtin.copy_ #[22, 22] 3 #[.slice (some ⟨g, 0, none⟩) l.length l.length, .slice A l.length c]).run Tryz.prog W = .ok (goInt l.length) W1 ∧ Blk W1 g l ∧ Below w.heap.size w W1 := by
 by_cases h0 : l = []
 ·subst h0
  have hL0 : L = [] := List.eq_nil_of_length_eq_zero hL
  subst hL0
  exact ⟨W, run_copy_none W 22 22 3 83 _ _ 0 0 0 c Tryz.underlying22 (by kernel_rfl) rfl, hb, hw⟩
 ·obtain ⟨b, off, rfl, hlt, hc⟩ := hl.2 h0
  have h := run_copy_row (P := Tryz.prog) W 22 22 3 83 g 0 l.length l.length ⟨b, off, none⟩ l.length c (words L) 83 (l.map fun (x : Nat) => Value.int .u32 (x : Int)) Tryz.underlying22 (by kernel_rfl) hb.2 (by simp)
   (fun j v hj => by
    obtain ⟨hj1, rfl⟩ := words_getElem? l j v hj
    rw [addr_add]; exact hc j hj1) (by simp [words, hL]) (fun v hv => by obtain ⟨x, _, rfl⟩ := List.mem_map.1 hv; rfl)
  rw [List.length_map] at h
  have e : ((words L).toList.take 0 ++ (l.map fun (x : Nat) => Value.int .u32 (x : Int)) ++ (words L).toList.drop (0 + l.length)).toArray = words l := by simp [words, hL]
  rw [e] at h
  exact ⟨_, h, ⟨hl.1, setRow_heap W g _ _ _ _ hb.2⟩, below_setRow hw hg _⟩
theorem own_any (a w : World) (A : Option Addr) (n c : Nat) (l : List Nat) (hn : l.length = n) (hm : n ≤ 4000000) (hws : WS w A l) (hw : Below a.heap.size a w) :
  Calls Tryz.prog 136 #[.slice A n c] w fun e w' => ∃ g, e = .returned (.slice (some ⟨g, 0, none⟩) n n) ∧ a.heap.size ≤ g ∧ Blk w' g l ∧ Below a.heap.size a w' := by
 subst hn
 have hmk := fun W => run_mk (l.length : Int) l.length rfl hm W
 obtain ⟨W1, hcp, hb1, hw1⟩ := run_copy_all w (w.alloc (.cells (words (zer l.length)) 83)) w.heap.size (zer l.length) A c l (zer_length _) (Blk.new w _ (zer_lt _)) (hws.below (ba (b0 _) _)) (ba (b0 _) _) (Nat.le_refl _)
 go_enter Tryz.func136, Tryz.ntmps136
 go_wp2_with fail
 go_ret
 exact ⟨w.heap.size, rfl, hw.size, hb1, bt hw hw1⟩
theorem own_res (a w : World) (A : Option Addr) (n c : Nat) (l : List Nat) (hn : l.length = n) (hm : n ≤ 4000000) (ht : Top l) (hws : WS w A l) (hw : Below a.heap.size a w) :
  Calls Tryz.prog 136 #[.slice A n c] w (Res a (val l)) :=
 (own_any a w A n c l hn hm hws hw).mono fun e w' h => by
  obtain ⟨g, rfl, hg, hb, hw'⟩ := h
  subst hn
  exact ⟨some ⟨g, 0, none⟩, l.length, l, rfl, Nat.le_refl _, fun _ => ⟨g, l, rfl, hg, hb, List.take_length, Nat.le_refl _⟩, ht, rfl, hw'⟩
open Go.RowKit
def FoldP (I : Nat → Value → World → Prop) (n : Nat) (e : Ending) (w' : World) : Prop := ∃ s', e = .returned s' ∧ I n s' w'
theorem m9436e {P : Prop} (h : P := by
 go_wp2
 go_loopw [2, 13] (fun s iv wr => ∃ i : Nat, i ≤ l.length ∧ iv = .int .i64 i ∧ Hid (I i s wr)) (fun _ iv _ => l.length - (intOf iv).toNat)
 case atStart => exact ⟨0, Nat.zero_le _, rfl, h0⟩
 case round =>
  obtain ⟨i, hi, rfl, hI⟩ := hrel
  by_cases hlt : i < l.length
  ·have hw := HA.out _ _ _ hI.out
   obtain ⟨b, off, rfl, hblt, hc⟩ := hw.at_ (by omega)
   have hc1 := hc i hlt
   clear hc
   go_wp2_with fail
   refine (wordAt_any B _ d (i : Int) k _ rfl hmm (by omega) (by omega) (HB.out _ _ _ hI.out)).mono ?_
   rintro e w1 ⟨rfl, rfl⟩
   rw [Int.toNat_natCast]
   go_wp2_with fail
   refine (HS.out i u2 _ hlt hI.out).mono ?_
   rintro e w2 ⟨s', rfl, hI2⟩
   have HI2 := Hi hI2
   clear hI2
   go_wp2_with fail
   go_roundw
   case rel => exact ⟨i + 1, by omega, by go_num, HI2⟩
   case measure => simp [intOf]; omega
  ·have he : i = l.length := by omega
   subst he
   go_wp2_with fail
   go_ret
   exact ⟨u2, rfl, hI.out⟩) : P := h
theorem fold64 (K : Nat) (cp : Value) (A B : Option Addr) (n c m d : Nat) (l k : List Nat) (I : Nat → Value → World → Prop) (hn : l.length = n) (hk : k.length = m) (hnm : n ≤ 4000000) (hmm : m ≤ 4000000)
  (hK : ∀ args W, (callFunc K args).run Tryz.prog W = .ok (.enter K args) W)
  (hA : ∀ i s W, I i s W → WS W A l) (hB : ∀ i s W, I i s W → WS W B k)
  (hstep : ∀ (i : Nat) s W, i < n → I i s W → Calls Tryz.prog K #[s, .int .i64 (i : Int), .int .u32 (gd l i : Int), .int .u32 (gd k i : Int), cp] W (FoldP I (i + 1)))
  (s0 : Value) (w : World) (h0 : I 0 s0 w) :
  Calls Tryz.prog 141 #[.slice A n c, .slice B m d, s0, .func (.func K) #[] #[cp]] w (FoldP I n) := by
 subst hn hk
 have HA := Hi hA
 have HB := Hi hB
 have HS := Hi hstep
 clear hA hB hstep
 go_enter Tryz.func141, Tryz.ntmps141
 exact m9436e
theorem foldI (K : Nat) (cp : Value) (A B : Option Addr) (n c m d : Nat) (l k : List Nat) (I : Nat → Value → World → Prop) (hn : l.length = n) (hk : k.length = m) (hnm : n ≤ 4000000) (hmm : m ≤ 4000000)
  (hK : ∀ args W, (callFunc K args).run Tryz.prog W = .ok (.enter K args) W)
  (hA : ∀ i s W, I i s W → WS W A l) (hB : ∀ i s W, I i s W → WS W B k)
  (hstep : ∀ (i : Nat) s W, i < n → I i s W → Calls Tryz.prog K #[s, .int .i64 (i : Int), .int .u32 (gd l i : Int), .int .u32 (gd k i : Int), cp] W (FoldP I (i + 1)))
  (s0 : Value) (w : World) (h0 : I 0 s0 w) :
  Calls Tryz.prog 143 #[.slice A n c, .slice B m d, s0, .func (.func K) #[] #[cp]] w (FoldP I n) := by
 subst hn hk
 have HA := Hi hA
 have HB := Hi hB
 have HS := Hi hstep
 clear hA hB hstep
 go_enter Tryz.func143, Tryz.ntmps143
 exact m9436e
end Go.Proofs.YtgljdfblgpdaaaaGreatDoor
