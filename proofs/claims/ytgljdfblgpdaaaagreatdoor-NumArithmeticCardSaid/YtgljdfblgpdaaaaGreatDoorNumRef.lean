/- Of and Small. -/
import Derived.Test.YtgljdfblgpdaaaaGreatDoorNumInt
import Derived.Test.YtgljdfblgpdaaaaGreatDoorNumSum
import Derived.Handy
import Derived.Deep.AppendLies
import Derived.OwnWalk
set_option linter.unusedSimpArgs false
set_option linter.unusedVariables false
/-! Of and Small. -/
namespace Go.Proofs.YtgljdfblgpdaaaaGreatDoor
open Go.RowKit

theorem wrap_neg (x : Nat) (h0 : 0 < x) (hx : x ≤ 9223372036854775808) : IntKind.u64.wrap (-(x : Int)) = 18446744073709551616 - (x : Int) := by
  simp [IntKind.wrap, IntKind.signed, IntKind.bits]
  omega
theorem wrap_neg2 (x : Nat) (h0 : 0 < x) (hx : x ≤ 9223372036854775808) : IntKind.u64.wrap (-(18446744073709551616 - (x : Int))) = (x : Int) := by
  simp [IntKind.wrap, IntKind.signed, IntKind.bits]
  omega

set_option maxRecDepth 100000 in
set_option maxHeartbeats 400000 in
theorem Of_neg (a w : World) (x : Nat) (h0 : 0 < x) (hx : x ≤ 9223372036854775808) (hw : Below a.heap.size a w) :
    Calls Tryz.prog 77 #[.int .i64 (-(x : Int))] w (IRes a (-(x : Int))) := by
  have hlt0 : decide (-(x : Int) < 0) = true := by simp; omega
  have e1 := wrap_neg x h0 hx
  have e2 := wrap_neg2 x h0 hx
  go_enter Tryz.func77, Tryz.ntmps77
  go_wp2_with fail
  refine (fromSingle_any _ _ x (by omega) (b0 _)).mono ?_
  rintro e w1 ⟨A, c, l, rfl, hc, ho, ht, hv, hb⟩
  have hlen : l.length ≤ 2 := top_len ht (by rw [hv]; show x < 4294967296 ^ 2; omega)
  have HV := Lib.hid hv
  clear hv
  go_wp2_with fail
  refine (signed_res _ _ true A c l (by omega) hc ho ht hb).mono ?_
  rintro e w2 ⟨ng, A2, c2, l2, rfl, hc2, hl2, hB, hz, hb2⟩
  have hbx := (Box2.new w (.bool false) (.slice none 0 0)).below hb2
  have q0 := hbx.cell0
  have q1 := hbx.cell1
  have f0 := hbx.free 0
  have f1 := hbx.free 1
  obtain ⟨k0, k1, k2⟩ := hbx.back (.bool ng) (.slice A2 l2.length c2)
  have HZ := Lib.hid hz
  have HBB := Lib.hid hB
  clear hz hB
  go_wp2_with fail
  refine bodyPost_ret (v := .agg #[.bool ng, .slice A2 l2.length c2]) (by simp [results, Tryz.results77, go_sem, k0, k2]) rfl ?_
  exact ires_store hw (ba (b0 _) _) (by simp) (Nat.le_refl _) hc2 hl2 HBB.out (by rw [HZ.out]; show -(val l : Int) = _; rw [HV.out]) hb2

/-- What Small returns: the value and the error. -/
def smallV (p neg : Bool) (l : List Nat) : Int × Int :=
  if !p then (0, 3) else if l.length > 2 then (0, 2) else if val l > 9223372036854775808 || (val l = 9223372036854775808 && !neg) then (0, 2) else (zI neg l, 0)

set_option maxRecDepth 100000 in
set_option maxHeartbeats 400000 in
theorem Small_any (neg : Bool) (A : Option Addr) (n c : Nat) (l : List Nat) (p : Bool) (w : World) (hn : l.length = n) (hm : n ≤ 4000000) (hl : WS w A l) (hp : isB neg l = p) :
    Calls Tryz.prog 75 #[.agg #[.bool neg, .slice A n c]] w fun e w' => e = .returned (.tuple #[.int .i64 (smallV p neg l).1, .int .i64 (smallV p neg l).2]) ∧ Below w.heap.size w w' := by
  subst hn
  have HP := Lib.hid hp
  clear hp
  cases p
  · rw [show smallV false neg l = (0, 3) from rfl]
    go_enter Tryz.func75, Tryz.ntmps75
    go_wp2_with fail
    refine (Is_any neg A _ c l _ rfl hm (hl.below (ba (b0 _) _))).mono ?_
    rintro e w1 ⟨rfl, hb⟩
    rw [HP.out]
    go_wp2_with fail
    go_returns
    exact ⟨rfl, bt (ba (b0 _) _) hb⟩
  · by_cases h2 : l.length > 2
    · rw [show smallV true neg l = (0, 2) from by simp [smallV, h2]]
      have h2i : (2 : Int) < (l.length : Int) := by omega
      go_enter Tryz.func75, Tryz.ntmps75
      go_wp2_with fail
      refine (Is_any neg A _ c l _ rfl hm (hl.below (ba (b0 _) _))).mono ?_
      rintro e w1 ⟨rfl, hb⟩
      rw [HP.out]
      have hbx := (Box2.new w (.bool neg) (.slice A l.length c)).below hb
      have c0 := hbx.cell0
      have c1 := hbx.cell1
      go_wp2_with fail
      go_returns
      exact ⟨rfl, bt (ba (b0 _) _) hb⟩
    · have h2i : ¬ (2 : Int) < (l.length : Int) := by omega
      have ev := val_two (by omega : l.length ≤ 2)
      have b1 := hl.lt 0
      have b2' := hl.lt 1
      obtain ⟨m, hm1⟩ : ∃ m, m = val l := ⟨_, rfl⟩
      have hml : m < 18446744073709551616 := by omega
      have hsing := fun W h => single_any A l.length c l W rfl hm h
      rw [← ev, ← hm1] at hsing
      have HS := Lib.hid hsing
      have HM := Lib.hid hm1
      have hS : smallV true neg l = if m > 9223372036854775808 || (m = 9223372036854775808 && !neg) then (0, 2) else ((if neg then -(m : Int) else (m : Int)), 0) := by
        simp only [smallV, Bool.not_true, Bool.false_eq_true, if_false, h2, zI, hm1]
      rw [hS]
      clear ev hm1 hsing hS b1 b2'
      by_cases hgt : m > 9223372036854775808
      · have hgi : (9223372036854775808 : Int) < (m : Int) := by omega
        rw [if_pos (by simp [hgt])]
        go_enter Tryz.func75, Tryz.ntmps75
        go_wp2_with fail
        refine (Is_any neg A _ c l _ rfl hm (hl.below (ba (b0 _) _))).mono ?_
        rintro e w1 ⟨rfl, hb⟩
        rw [HP.out]
        have hbx := (Box2.new w (.bool neg) (.slice A l.length c)).below hb
        have c0 := hbx.cell0
        have c1 := hbx.cell1
        go_wp2_with fail
        refine (HS.out w1 (hl.below (bt (ba (b0 _) _) hb))).mono ?_
        rintro e w2 ⟨rfl, rfl⟩
        go_wp2_with fail
        go_returns
        exact ⟨rfl, bt (ba (b0 _) _) hb⟩
      · have hgi : ¬ (9223372036854775808 : Int) < (m : Int) := by omega
        by_cases heq : m = 9223372036854775808
        · subst heq
          cases neg
          · rw [if_pos (by simp)]
            go_enter Tryz.func75, Tryz.ntmps75
            go_wp2_with fail
            refine (Is_any false A _ c l _ rfl hm (hl.below (ba (b0 _) _))).mono ?_
            rintro e w1 ⟨rfl, hb⟩
            rw [HP.out]
            have hbx := (Box2.new w (.bool false) (.slice A l.length c)).below hb
            have c0 := hbx.cell0
            have c1 := hbx.cell1
            go_wp2_with fail
            refine (HS.out w1 (hl.below (bt (ba (b0 _) _) hb))).mono ?_
            rintro e w2 ⟨rfl, rfl⟩
            go_wp2_with fail
            go_returns
            exact ⟨rfl, bt (ba (b0 _) _) hb⟩
          · rw [if_neg (by simp)]
            have e0 : IntKind.u64.wrap (-9223372036854775808) = 9223372036854775808 := by decide
            have e00 : wrap64 9223372036854775808 = -9223372036854775808 := by unfold wrap64; omega
            go_enter Tryz.func75, Tryz.ntmps75
            go_wp2_with fail
            refine (Is_any true A _ c l _ rfl hm (hl.below (ba (b0 _) _))).mono ?_
            rintro e w1 ⟨rfl, hb⟩
            rw [HP.out]
            have hbx := (Box2.new w (.bool true) (.slice A l.length c)).below hb
            have c0 := hbx.cell0
            have c1 := hbx.cell1
            go_wp2_with fail
            refine (HS.out w1 (hl.below (bt (ba (b0 _) _) hb))).mono ?_
            rintro e w2 ⟨rfl, rfl⟩
            go_wp2_with fail
            go_returns
            exact ⟨rfl, bt (ba (b0 _) _) hb⟩
        · have hei : ((m : Int) == 9223372036854775808) = false := beq_eq_false_iff_ne.2 (by omega)
          rw [if_neg (by simp; omega)]
          have hw1 : IntKind.i64.wrap (m : Int) = (m : Int) := IntWalk.i64_in _ ⟨by omega, by omega⟩
          have hw2 : IntKind.i64.wrap (IntKind.u64.wrap (-(m : Int))) = -(m : Int) := by
            rcases Nat.eq_zero_or_pos m with h0 | h0
            · subst h0; rfl
            · rw [IntKind.wrap_i64, IntKind.wrap_u64]; omega
          cases neg
          · go_enter Tryz.func75, Tryz.ntmps75
            go_wp2_with fail
            refine (Is_any false A _ c l _ rfl hm (hl.below (ba (b0 _) _))).mono ?_
            rintro e w1 ⟨rfl, hb⟩
            rw [HP.out]
            have hbx := (Box2.new w (.bool false) (.slice A l.length c)).below hb
            have c0 := hbx.cell0
            have c1 := hbx.cell1
            go_wp2_with fail
            refine (HS.out w1 (hl.below (bt (ba (b0 _) _) hb))).mono ?_
            rintro e w2 ⟨rfl, rfl⟩
            go_wp2_with fail
            go_returns
            exact ⟨rfl, bt (ba (b0 _) _) hb⟩
          · go_enter Tryz.func75, Tryz.ntmps75
            go_wp2_with fail
            refine (Is_any true A _ c l _ rfl hm (hl.below (ba (b0 _) _))).mono ?_
            rintro e w1 ⟨rfl, hb⟩
            rw [HP.out]
            have hbx := (Box2.new w (.bool true) (.slice A l.length c)).below hb
            have c0 := hbx.cell0
            have c1 := hbx.cell1
            go_wp2_with fail
            refine (HS.out w1 (hl.below (bt (ba (b0 _) _) hb))).mono ?_
            rintro e w2 ⟨rfl, rfl⟩
            go_wp2_with fail
            go_returns
            exact ⟨rfl, bt (ba (b0 _) _) hb⟩
end Go.Proofs.YtgljdfblgpdaaaaGreatDoor

/-! The specification of num: its small functions. -/
namespace Go.Proofs.YtgljdfblgpdaaaaGreatDoor
open Go.RowKit

set_option maxHeartbeats 400000 in
theorem RIs_any (neg : Bool) (A : Option Addr) (n c : Nat) (l : List Nat) (w : World) (hn : l.length = n) (hm : n ≤ 4000000) (hws : WS w A l) :
    Calls Tryz.prog 31 #[.agg #[.bool neg, .slice A n c]] w fun e w' => e = .returned (.bool (isB neg l)) ∧ Below w.heap.size w w' := by
  subst hn
  by_cases h0 : l.length = 0
  · have e1 : isB neg l = !neg := by unfold isB; rw [if_pos h0]
    have E1 := Lib.hid e1
    clear e1
    rw [h0]
    clear h0
    go_enter Tryz.func31, Tryz.ntmps31
    go_wp2
    go_ret
    exact ⟨ret_bool E1.out.symm, (Below.refl _ _).alloc (Nat.le_refl _) _⟩
  · obtain ⟨b, off, rfl, hlt, hc⟩ := hws.at_ (by omega)
    have e1 : isB neg l = (((gd l (l.length - 1) : Nat) : Int) != 0) := by unfold isB; rw [if_neg h0]
    have E1 := Lib.hid e1
    have hc1 := hc (l.length - 1) (by omega)
    have hz : ((l.length : Int) == 0) = false := beq_eq_false_iff_ne.2 (by omega)
    have hl1 : 1 ≤ (l.length : Int) := by omega
    have hx := hws.lt (l.length - 1)
    clear e1 hc
    generalize hl : gd l (l.length - 1) = x at *
    clear hl
    go_enter Tryz.func31, Tryz.ntmps31
    go_wp2
    go_ret
    exact ⟨ret_bool E1.out.symm, (Below.refl _ _).alloc (Nat.le_refl _) _⟩


set_option maxHeartbeats 400000 in
theorem Rtrim_any (A : Option Addr) (n c : Nat) (l : List Nat) (w : World) (hn : l.length = n) (hm : n ≤ 4000000) (hnc : n ≤ c) (hws : WS w A l) :
    Calls Tryz.prog 149 #[.slice A n c] w (TrimP A n c l w) := by
  subst hn
  go_enter Tryz.func149, Tryz.ntmps149
  go_wp2
  go_loop [3] (fun n => ∃ k : Nat, k ≤ l.length ∧ n = .int .i64 k ∧ ∀ j, k ≤ j → gd l j = 0) (fun n => (intOf n).toNat)
  case atStart => exact ⟨l.length, Nat.le_refl _, rfl, fun j hj => gd_end hj⟩
  case round =>
    obtain ⟨k, hk, rfl, hz⟩ := hrel
    have HZ := Lib.hid hz
    clear hz
    rcases Nat.eq_zero_or_pos k with rfl | h0
    · go_wp2
      go_ret
      exact ⟨⟨0, by omega, rfl, fun h => absurd h (by omega), HZ.out⟩, rfl⟩
    · obtain ⟨b, off, rfl, hlt, hc⟩ := hws.at_ (by omega)
      have hc1 := hc (k - 1) (by omega)
      have hx2 := hws.lt (k - 1)
      clear hc
      by_cases hx0 : gd l (k - 1) = 0
      · have H0 := Lib.hid hx0
        rw [hx0] at hc1
        clear hx0
        go_wp2
        go_round
        case rel =>
          refine ⟨k - 1, by omega, by go_num, fun j hj => ?_⟩
          rcases Nat.lt_or_ge j k with h1 | h1
          · have : j = k - 1 := by omega
            rw [this]; exact H0.out
          · exact HZ.out j h1
        case measure => simp [intOf]; omega
      · have H0 := Lib.hid hx0
        have hz1 : (((gd l (k - 1) : Nat) : Int) == 0) = false := beq_eq_false_iff_ne.2 (by omega)
        clear hx0
        go_wp2
        go_ret
        exact ⟨⟨k, by omega, rfl, fun _ => H0.out, HZ.out⟩, rfl⟩


set_option maxHeartbeats 400000 in
theorem Rword_any (A : Option Addr) (n c : Nat) (i : Int) (l : List Nat) (w : World) (hn : l.length = n) (hm : n ≤ 4000000) (hi : 0 ≤ i) (hi2 : i ≤ 4000000) (hws : WS w A l) :
    Calls Tryz.prog 145 #[.slice A n c, .int .i64 i] w fun e w' => e = .returned (.int .u64 ((gd l i.toNat : Nat) : Int)) ∧ w = w' := by
  subst hn
  obtain ⟨j, rfl⟩ := Int.eq_ofNat_of_zero_le hi
  by_cases h0 : j < l.length
  · obtain ⟨b, off, rfl, hlt, hc⟩ := hws.at_ (by omega)
    have hc1 := hc j h0
    have hx := hws.lt j
    rw [Int.toNat_natCast]
    clear hc
    go_enter Tryz.func145, Tryz.ntmps145
    go_wp2
    go_ret
    exact ⟨rfl, rfl⟩
  · have e : gd l j = 0 := gd_end (by omega)
    have E := Lib.hid e
    clear e
    rw [Int.toNat_natCast, E.out]
    go_enter Tryz.func145, Tryz.ntmps145
    go_wp2
    go_ret
    exact ⟨rfl, rfl⟩


/-- A call returned the integer z in canonical form, wherever its words lie. -/
def WRes (a : World) (z : Int) (e : Ending) (w' : World) : Prop :=
  ∃ neg A c l, e = .returned (.agg #[.bool neg, .slice A l.length c]) ∧ l.length ≤ c ∧ WS w' A l ∧ isB neg l = true ∧ zI neg l = z ∧ Below a.heap.size a w'
theorem IRes.weak {a : World} {z : Int} {e : Ending} {w' : World} (h : IRes a z e w') : WRes a z e w' := by
  obtain ⟨neg, A, c, l, h1, h2, h3, h4, h5, h6⟩ := h
  exact ⟨neg, A, c, l, h1, h2, h3.ws, h4, h5, h6⟩
theorem info_v : ∃ i, Tryz.prog.info? 83 = some i ∧ i.zero = some (.int .u32 0) ∧ i.size = 1 ∧ i.bytes = 4 := by
  have h := info_w
  cases hi : Tryz.prog.info? 83 with
  | none => rw [hi] at h; cases h
  | some i => rw [hi] at h; simp only [Option.map_some, Option.some.injEq, Prod.mk.injEq] at h; exact ⟨i, rfl, h.1, h.2.1, h.2.2⟩
/-- What an append of words laid reads. -/
theorem ws_of_row {w : World} {base g n cap : Nat} {l : List Nat} (hl : ∀ x ∈ l, x < 4294967296) (hn : l.length = n) (h : w.ownsRow base 83 1 (.slice (some ⟨g, 0, none⟩) n cap) n (l.map fun (x : Nat) => Value.int .u32 (x : Int))) (h0 : 0 < n) (hg : g < w.heap.size) : n ≤ cap ∧ WS w (some ⟨g, 0, none⟩) l := by
  rcases h.2 with ⟨h1, _⟩ | ⟨g', cap', cur, h1, _, h2, h3, _, h4, h5⟩
  · cases h1
  · injection h1 with h1 h6 h7
    injection h1 with h1
    injection h1 with h1
    subst h1 h7
    refine ⟨h3, hl, fun _ => ⟨g, 0, rfl, hg, fun j hj => ?_⟩⟩
    rw [cell_of_row w g _ _ _ (0, 0) h2]
    have e1 : (cur.toList.take (n * 1))[j]? = some (.int .u32 ((gd l j : Nat) : Int)) := by
      rw [h5, List.getElem?_map, List.getElem?_eq_getElem hj, gd_at hj]; rfl
    rw [List.getElem?_take_of_lt (by omega)] at e1
    simpa using e1

theorem box2_only {W W' : World} {p g : Nat} {u v : Value} (h : Box2 W p u v) (hb : Only g W W') (hne : p ≠ g) : Box2 W' p u v := (hb.block p h.lt (fun e => hne (by injection e))).trans h
theorem one_words {l : List Nat} : ∀ u ∈ l.map (fun (x : Nat) => Value.int .u32 (x : Int)), u.oneCell' = true := fun u hu => by
  obtain ⟨x, _, rfl⟩ := List.mem_map.1 hu
  rfl
theorem own_empty (w : World) (o : Obj) : ((w.alloc o).alloc (.cells #[] 83)).ownsRow (w.heap.size + 1) 83 1 (.slice (some ⟨w.heap.size + 1, 0, none⟩) 0 0) 0 [] :=
  ⟨rfl, .inr ⟨w.heap.size + 1, 0, #[], rfl, Nat.le_refl _, by
    have h := heap_alloc_new (w.alloc o) (.cells #[] 83)
    rwa [World.size_alloc] at h, Nat.le_refl _, by simp [maxLen], rfl, rfl⟩⟩
theorem news_ws {w : World} {b off k : Nat} {l : List Nat} (hk : k ≤ l.length) (h : WS w (some ⟨b, off, none⟩) l) :
    ∀ j u, ((l.take k).map fun (x : Nat) => Value.int .u32 (x : Int))[j]? = some u → w.cell? ((⟨b, off, none⟩ : Addr).add j) = some u := fun j u hu => by
  have hj : j < (l.take k).length := by
    rcases Nat.lt_or_ge j (l.take k).length with h1 | h1
    · exact h1
    · rw [List.getElem?_eq_none (by simpa using h1)] at hu; cases hu
  have hjk : j < k := by simp at hj; omega
  have hjl : j < l.length := by omega
  obtain ⟨b', off', e, _, hc⟩ := h.at_ (by omega)
  injection e with e
  injection e with e1 e2
  subst e1 e2
  rw [List.getElem?_map, List.getElem?_eq_getElem hj] at hu
  have hadd : (⟨b, off, none⟩ : Addr).add j = ⟨b, off + j, none⟩ := by unfold Addr.add; split <;> simp_all
  rw [hadd, hc j hjl, gd_at hjl]
  simpa using hu

set_option maxRecDepth 100000 in
set_option maxHeartbeats 400000 in
theorem Rmade_any (a w : World) (neg : Bool) (A : Option Addr) (n c : Nat) (l : List Nat) (hn : l.length = n) (hm : n ≤ 4000000) (hnc : n ≤ c) (hl : WS w A l) (hw : Below a.heap.size a w) :
    Calls Tryz.prog 94 #[.bool neg, .slice A n c] w (WRes a (zI neg l)) := by
  subst hn
  obtain ⟨i0, hi0, hz0, hz1, hz2⟩ := info_v
  go_enter Tryz.func94, Tryz.ntmps94
  go_wp2_with fail
  refine (Rtrim_any A l.length c l _ rfl hm hnc (hl.below (ba (b0 _) _))).mono ?_
  rintro e w1 ⟨⟨k, hk, rfl, ht, hz⟩, rfl⟩
  rcases Nat.eq_zero_or_pos k with rfl | h0
  · have e0 : val l = 0 := val_zero_of l (fun j => hz j (Nat.zero_le _))
    go_wp2_with fail
    go_returns
    refine ⟨false, none, 0, [], rfl, Nat.le_refl _, WS.nil_ _ _, rfl, ?_, bt hw (ba (b0 _) _)⟩
    unfold zI; rw [e0]; cases neg <;> rfl
  · have hk0 : ((k : Int) == 0) = false := beq_eq_false_iff_ne.2 (by omega)
    have hlen : (l.take k).length = k := by simp; omega
    have hvt : val (l.take k) = val l := val_take_top l k hz
    have hTop : Top (l.take k) := fun _ => by rw [hlen, gd_take (by omega)]; exact ht h0
    have HT := Lib.hid hTop
    have HV := Lib.hid hvt
    clear ht hz hvt hTop
    obtain ⟨b, off, rfl, hlt, hc⟩ := hl.at_ (by omega)
    have HC := Lib.hid hc
    clear hc
    go_wp2_with (at_builtin; refine wpList_append_lies _ rfl (.tmp 12) (.tmp 13) _ rfl (w.heap.size + 1) 83 i0 _ 1 4 Tryz.underlying22 hi0 hz0 hz1 hz2 rfl (by omega) (.slice (some ⟨w.heap.size + 1, 0, none⟩) 0 0) 0 [] rfl (own_empty _ _) ⟨b, off, none⟩ k c ((l.take k).map fun (x : Nat) => Value.int .u32 (x : Int)) rfl (by simp; omega) (news_ws hk (hl.below (ba (ba (b0 _) _) _))) one_words h0 (by simp only [maxLen]; omega) (by omega) (by simp) _ rfl ?_; intro g cap w3 hown hgrow hat hlt3; have hO : Only (w.heap.size + 1) ((w.alloc (.cells #[.bool false, .slice none 0 0] 24)).alloc (.cells #[] 83)) w3 := hgrow; have hbx := box2_only ((Box2.new w (.bool false) (.slice none 0 0)).alloc (.cells #[] 83)) hO (by omega); have q0 := hbx.cell0; have q1 := hbx.cell1; have f0 := hbx.free 0; have f1 := hbx.free 1)
    rw [Nat.zero_add] at hown
    obtain ⟨hcap, hws⟩ := ws_of_row (words_take hl.1 k) hlen hown h0 hlt3
    obtain ⟨k0, k1, k2⟩ := hbx.back (.bool neg) (.slice (some ⟨g, 0, none⟩) k cap)
    refine bodyPost_ret (v := .agg #[.bool neg, .slice (some ⟨g, 0, none⟩) k cap]) (by simp [results, Tryz.results94, go_sem, k0, k2]) rfl ?_
    have hgne : g ≠ w.heap.size := by
      rcases hat with h | h
      · simp [Value.ownBlock] at h; omega
      · simp at h; omega
    have hs := hw.size
    refine ⟨neg, some ⟨g, 0, none⟩, cap, l.take k, by rw [hlen], by rw [hlen]; exact hcap, hws.two (fun _ b' o' e => by injection e with e; injection e with e1; omega) _ _, isB_of HT.out (fun h => by omega), ?_, b2 (bo (ba (ba hw _) _) hO (by omega)) hs _ _⟩
    unfold zI
    rw [HV.out]

/-- Words do not lie in a box of an integer. -/
theorem ws_off_box {W : World} {p : Nat} {u v : Value} {A : Option Addr} {l : List Nat} (h : Box2 W p u v) (hu : ∀ x : Nat, u ≠ .int .u32 (x : Int) ∧ v ≠ .int .u32 (x : Int)) (hl : WS W A l) : Off A l p := by
  intro h0 b off e
  obtain ⟨b', off', e', _, hc⟩ := hl.2 h0
  rw [e] at e'
  injection e' with e'
  injection e' with e1 e2
  subst e1 e2
  rintro rfl
  have h1 := hc 0 (List.length_pos_iff.2 h0)
  rw [Nat.add_zero, cell_of_row W _ off _ _ (0, 0) h] at h1
  match off, h1 with
  | 0, h1 => simp at h1; exact (hu _).1 h1
  | 1, h1 => simp at h1; exact (hu _).2 h1
  | k + 2, h1 => simp at h1

end Go.Proofs.YtgljdfblgpdaaaaGreatDoor

/-! The specification of num: Same and Of. -/
namespace Go.Proofs.YtgljdfblgpdaaaaGreatDoor
open Go.RowKit

theorem list_eq_gd {l k : List Nat} (h : l.length = k.length) (hg : ∀ j, j < l.length → gd l j = gd k j) : l = k := by
  refine List.ext_getElem h fun j h1 h2 => ?_
  have := hg j h1
  rwa [gd_at h1, gd_at h2] at this

set_option maxRecDepth 100000 in
set_option maxHeartbeats 1000000 in
theorem RSame_any (na nb : Bool) (A B : Option Addr) (n c m d : Nat) (l k : List Nat) (w : World) (hn : l.length = n) (hm : k.length = m) (hn2 : n ≤ 4000000) (hm2 : m ≤ 4000000) (hl : WS w A l) (hk : WS w B k) :
    Calls Tryz.prog 17 #[.agg #[.bool na, .slice A n c], .agg #[.bool nb, .slice B m d]] w fun e w' => e = .returned (.bool (na == nb && decide (l = k))) ∧ Below w.heap.size w w' := by
  subst hn hm
  by_cases h1 : na = nb
  · subst h1
    by_cases h2 : l.length = k.length
    · have e1 : ((l.length : Int) != (k.length : Int)) = false := by simp; omega
      have H2 := Lib.hid h2
      clear h2
      go_enter Tryz.func17, Tryz.ntmps17
      go_wp2_with fail
      obtain ⟨W1, hW1⟩ : ∃ W, W = (w.alloc (.cells #[.bool na, .slice A l.length c] 24)).alloc (.cells #[.bool na, .slice B k.length d] 24) := ⟨_, rfl⟩
      have x0 : Box2 W1 w.heap.size (.bool na) (.slice A l.length c) := by rw [hW1]; exact (Box2.new w _ _).alloc _
      have x1 : Box2 W1 (w.heap.size + 1) (.bool na) (.slice B k.length d) := by
        rw [hW1]
        have h := Box2.new (w.alloc (.cells #[.bool na, .slice A l.length c] 24)) (.bool na) (.slice B k.length d)
        rwa [World.size_alloc] at h
      have hw1 : Below w.heap.size w W1 := by rw [hW1]; exact ba (ba (b0 _) _) _
      rw [← hW1]
      have hl1 := hl.below hw1
      have hk1 := hk.below hw1
      have HB := Lib.hid hw1
      clear hW1 hl hk hw1
      go_loopw [5] (fun iv wr => ∃ i : Nat, iv = .int .i64 (i : Int) ∧ i ≤ l.length ∧ (∀ j, j < i → gd l j = gd k j) ∧ Below W1.heap.size W1 wr) (fun iv _ => l.length - (intOf iv).toNat)
      case atStart => exact ⟨0, rfl, Nat.zero_le _, fun j hj => absurd hj (by omega), b0 _⟩
      case round =>
        obtain ⟨i, rfl, hi, hpre, hwr⟩ := hrel
        have HPR := Lib.hid hpre
        clear hpre
        have c0 := (x0.below hwr).cell1
        have c1 := (x1.below hwr).cell1
        rcases Nat.lt_or_ge i l.length with hlt | hge
        · have hlti : (i : Int) < (l.length : Int) := by omega
          obtain ⟨b, off, rfl, hb1, hc1⟩ := (hl1.below hwr).at_ (by omega)
          obtain ⟨b', off', rfl, hb2, hc2⟩ := (hk1.below hwr).at_ (by have := H2.out; omega)
          have d1 := hc1 i hlt
          have d2 := hc2 i (by have := H2.out; omega)
          have hltk : (i : Int) < (k.length : Int) := by have := H2.out; omega
          have hx := hl1.lt i
          have hy := hk1.lt i
          clear hc1 hc2
          by_cases hg : gd l i = gd k i
          · have HG := Lib.hid hg
            have hne : (((gd l i : Nat) : Int) != ((gd k i : Nat) : Int)) = false := by rw [hg]; simp
            clear hg
            go_wp2_with fail
            go_quiet (fail)
            go_wp2_with fail
            go_roundw
            case rel =>
              refine ⟨i + 1, by go_num, by omega, fun j hj => ?_, bd hwr _⟩
              rcases Nat.lt_or_ge j i with h | h
              · exact HPR.out j h
              · rw [show j = i from by omega]; exact HG.out
            case measure => simp [intOf]; omega
          · have HG := Lib.hid hg
            have hne : (((gd l i : Nat) : Int) != ((gd k i : Nat) : Int)) = true := by simp; omega
            clear hg
            go_wp2_with fail
            go_quiet (fail)
            go_wp2_with fail
            go_ret
            exact ⟨ret_bool (by have : l ≠ k := fun h => HG.out (by rw [h]); simp [this]), bd (bt HB.out hwr) _⟩
        · have hnlt : ¬ (i : Int) < (l.length : Int) := by omega
          go_wp2_with fail
          go_ret
          exact ⟨ret_bool (by have : l = k := list_eq_gd H2.out (fun j hj => HPR.out j (by omega)); simp [this]), bt HB.out hwr⟩
    · have e1 : ((l.length : Int) != (k.length : Int)) = true := by simp; omega
      have hne : l ≠ k := fun h => h2 (by rw [h])
      have HN := Lib.hid hne
      clear hne
      go_enter Tryz.func17, Tryz.ntmps17
      go_wp2_with fail
      go_ret
      exact ⟨ret_bool (by have := HN.out; simp [this]), ba (ba (b0 _) _) _⟩
  · have e1 : (na != nb) = true := by simpa using h1
    have H1 := Lib.hid h1
    clear h1
    go_enter Tryz.func17, Tryz.ntmps17
    go_wp2_with fail
    go_ret
    exact ⟨ret_bool (by have := H1.out; simp [this]), ba (ba (b0 _) _) _⟩
end Go.Proofs.YtgljdfblgpdaaaaGreatDoor

/- The specification of num: Of and cmpWords. -/
namespace Go.Proofs.YtgljdfblgpdaaaaGreatDoor
open Go.RowKit

set_option maxRecDepth 100000 in
set_option maxHeartbeats 400000 in
theorem ROf_pos (a w : World) (x : Nat) (hx : x < 9223372036854775808) (hw : Below a.heap.size a w) :
    Calls Tryz.prog 59 #[.int .i64 (x : Int)] w (WRes a (x : Int)) := by
  have hlt0 : decide ((x : Int) < 0) = false := by simp
  have hd : x / 4294967296 < 4294967296 := by omega
  have hmd : x % 4294967296 < 4294967296 := Nat.mod_lt _ (by decide)
  go_enter Tryz.func59, Tryz.ntmps59
  go_wp2_with fail
  rw [show (#[Value.int IntKind.u32 (↑x % 4294967296), Value.int IntKind.u32 (↑x / 4294967296)] : Array Value) = words [x % 4294967296, x / 4294967296] from by simp [words]]
  have hbx := (Box2.new w (.bool false) (.slice none 0 0)).alloc (.cells (words [x % 4294967296, x / 4294967296]) 83)
  have hwd := Blk.new (w.alloc (.cells #[.bool false, .slice none 0 0] 24)) [x % 4294967296, x / 4294967296] (by simp; omega)
  rw [World.size_alloc] at hwd
  have hws := hwd.ws (o := 0) (n := 2) (by simp)
  rw [List.drop_zero, show List.take 2 [x % 4294967296, x / 4294967296] = [x % 4294967296, x / 4294967296] from rfl] at hws
  refine (Rmade_any _ _ false _ 2 2 [x % 4294967296, x / 4294967296] rfl (by omega) (by omega) hws (b0 _)).mono ?_
  rintro e w3 ⟨ng, A3, c3, l3, rfl, hc3, hl3, hB3, hz3, hb3⟩
  have HZ3 := Lib.hid hz3
  have HB3 := Lib.hid hB3
  clear hz3 hB3
  have hbx3 := hbx.below hb3
  have x0 := hbx3.cell0
  have x1 := hbx3.cell1
  have f0 := hbx3.free 0
  have f1 := hbx3.free 1
  obtain ⟨k0, k1, k2⟩ := hbx3.back (.bool ng) (.slice A3 l3.length c3)
  go_wp2_with fail
  refine bodyPost_ret (v := .agg #[.bool ng, .slice A3 l3.length c3]) (by simp [results, Tryz.results59, go_sem, k0, k2]) rfl ?_
  have hof := ws_off_box hbx3 (by simp) hl3
  refine ⟨ng, A3, c3, l3, rfl, hc3, hl3.two hof _ _, HB3.out, ?_, b2 (bt (ba (ba hw _) _) hb3) (by have := hw.size; omega) _ _⟩
  rw [HZ3.out]
  simp [zI, val]
  omega

set_option maxRecDepth 100000 in
set_option maxHeartbeats 400000 in
theorem ROf_neg (a w : World) (x : Nat) (h0 : 0 < x) (hx : x ≤ 9223372036854775808) (hw : Below a.heap.size a w) :
    Calls Tryz.prog 59 #[.int .i64 (-(x : Int))] w (WRes a (-(x : Int))) := by
  have hlt0 : decide (-(x : Int) < 0) = true := by simp; omega
  have e1 := wrap_neg x h0 hx
  have e2 := wrap_neg2 x h0 hx
  have hd : x / 4294967296 < 4294967296 := by omega
  have hmd : x % 4294967296 < 4294967296 := Nat.mod_lt _ (by decide)
  go_enter Tryz.func59, Tryz.ntmps59
  go_wp2_with fail
  rw [show (#[Value.int IntKind.u32 (↑x % 4294967296), Value.int IntKind.u32 (↑x / 4294967296)] : Array Value) = words [x % 4294967296, x / 4294967296] from by simp [words]]
  have hbx := (Box2.new w (.bool false) (.slice none 0 0)).alloc (.cells (words [x % 4294967296, x / 4294967296]) 83)
  have hwd := Blk.new (w.alloc (.cells #[.bool false, .slice none 0 0] 24)) [x % 4294967296, x / 4294967296] (by simp; omega)
  rw [World.size_alloc] at hwd
  have hws := hwd.ws (o := 0) (n := 2) (by simp)
  rw [List.drop_zero, show List.take 2 [x % 4294967296, x / 4294967296] = [x % 4294967296, x / 4294967296] from rfl] at hws
  refine (Rmade_any _ _ true _ 2 2 [x % 4294967296, x / 4294967296] rfl (by omega) (by omega) hws (b0 _)).mono ?_
  rintro e w3 ⟨ng, A3, c3, l3, rfl, hc3, hl3, hB3, hz3, hb3⟩
  have HZ3 := Lib.hid hz3
  have HB3 := Lib.hid hB3
  clear hz3 hB3
  have hbx3 := hbx.below hb3
  have x0 := hbx3.cell0
  have x1 := hbx3.cell1
  have f0 := hbx3.free 0
  have f1 := hbx3.free 1
  obtain ⟨k0, k1, k2⟩ := hbx3.back (.bool ng) (.slice A3 l3.length c3)
  go_wp2_with fail
  refine bodyPost_ret (v := .agg #[.bool ng, .slice A3 l3.length c3]) (by simp [results, Tryz.results59, go_sem, k0, k2]) rfl ?_
  have hof := ws_off_box hbx3 (by simp) hl3
  refine ⟨ng, A3, c3, l3, rfl, hc3, hl3.two hof _ _, HB3.out, ?_, b2 (bt (ba (ba hw _) _) hb3) (by have := hw.size; omega) _ _⟩
  rw [HZ3.out]
  simp [zI, val]
  omega

theorem ROf_any (a w : World) (x : Int) (h1 : -9223372036854775808 ≤ x) (h2 : x ≤ 9223372036854775807) (hw : Below a.heap.size a w) :
    Calls Tryz.prog 59 #[.int .i64 x] w (WRes a x) := by
  rcases Int.lt_or_le x 0 with h | h
  · obtain ⟨y, rfl⟩ : ∃ y : Nat, x = -(y : Int) := ⟨x.natAbs, by omega⟩
    exact ROf_neg a w y (by omega) (by omega) hw
  · obtain ⟨y, rfl⟩ : ∃ y : Nat, x = (y : Int) := ⟨x.toNat, by omega⟩
    exact ROf_pos a w y (by omega) hw
theorem Of_any (a w : World) (x : Int) (h1 : -9223372036854775808 ≤ x) (h2 : x ≤ 9223372036854775807) (hw : Below a.heap.size a w) :
    Calls Tryz.prog 77 #[.int .i64 x] w (IRes a x) := by
  rcases Int.lt_or_le x 0 with h | h
  · obtain ⟨y, rfl⟩ : ∃ y : Nat, x = -(y : Int) := ⟨x.natAbs, by omega⟩
    exact Of_neg a w y (by omega) (by omega) hw
  · obtain ⟨y, rfl⟩ : ∃ y : Nat, x = (y : Int) := ⟨x.toNat, by omega⟩
    exact Of_pos a w y (by omega) hw

theorem cmpN_swap (x y : Nat) : -(cmpN x y) = cmpN y x := by unfold cmpN; (repeat' split) <;> omega
theorem cmpN_lo (x y : Nat) : -1 ≤ cmpN x y ∧ cmpN x y ≤ 1 := by unfold cmpN; (repeat' split) <;> omega

theorem small_spec {p neg : Bool} {l : List Nat} (h2 : l.length ≤ 2) : smallV p neg l = if !p then (0, 3) else if (neg && decide (val l > 9223372036854775808)) || (!neg && decide (val l ≥ 9223372036854775808)) then (0, 2) else (zI neg l, 0) := by
  have hc : (decide (val l > 9223372036854775808) || (decide (val l = 9223372036854775808) && !neg)) = ((neg && decide (val l > 9223372036854775808)) || (!neg && decide (val l ≥ 9223372036854775808))) := by
    cases neg
    · simp only [Bool.not_false, Bool.and_true, Bool.false_and, Bool.false_or, Bool.true_and]
      rw [Bool.eq_iff_iff]; simp; omega
    · simp
  unfold smallV
  cases p
  · rfl
  · have h3 : ¬ l.length > 2 := by omega
    simp only [Bool.not_true, Bool.false_eq_true, if_false, h3, hc]
theorem quiet_w {P : Program} {f : FuncId} {args : Array Value} {w : World} {n : Nat} {v : Value} (h : Calls P f args (w.drewN n) fun e w' => e = .returned v ∧ w.drewN n = w') :
    Calls P f args (w.drewN n) fun e w'' => e = .returned v ∧ ∃ m, w'' = w.drewN m := h.mono fun _ _ h => ⟨h.1, n, h.2.symm⟩

end Go.Proofs.YtgljdfblgpdaaaaGreatDoor

/-! The law's own helpers. -/
namespace Go.Proofs.YtgljdfblgpdaaaaGreatDoor
open Go.RowKit

/-- There is one canonical form. -/
theorem same_iff {n1 n2 : Bool} {l1 l2 : List Nat} (w1 : ∀ x ∈ l1, x < 4294967296) (w2 : ∀ x ∈ l2, x < 4294967296) (h1 : isB n1 l1 = true) (h2 : isB n2 l2 = true) : (n1 == n2 && decide (l1 = l2)) = decide (zI n1 l1 = zI n2 l2) := by
  rw [Bool.eq_iff_iff]
  simp only [Bool.and_eq_true, beq_iff_eq, decide_eq_true_eq]
  constructor
  · rintro ⟨rfl, rfl⟩; rfl
  · intro h
    have hv : val l1 = val l2 := by
      have e : ∀ (n : Bool) (l : List Nat), (zI n l).natAbs = val l := fun n l => by cases n <;> simp [zI]
      rw [← e n1, ← e n2, h]
    have hl := top_inj w1 w2 (isB_top h1) (isB_top h2) hv
    subst hl
    refine ⟨?_, rfl⟩
    by_cases h0 : l1.length = 0
    · rw [isB_nil h1 h0, isB_nil h2 h0]
    · have hp := val_pos (isB_top h1) (by omega)
      cases n1 <;> cases n2 <;> simp [zI] at h ⊢ <;> omega

theorem small_len {n : Bool} {l : List Nat} {x : Int} (hB : isB n l = true) (hz : zI n l = x) (h1 : -9223372036854775808 ≤ x) (h2 : x ≤ 9223372036854775807) : l.length ≤ 4000000 := by
  have e : val l = x.natAbs := by rw [← hz]; unfold zI; split <;> simp
  exact Nat.le_trans (top_len (m := 2) (isB_top hB) (by rw [e]; show x.natAbs < 4294967296 ^ 2; omega)) (by omega)

set_option maxRecDepth 100000 in
set_option maxHeartbeats 400000 in
theorem is_any (neg : Bool) (A : Option Addr) (n c : Nat) (l : List Nat) (z x : Int) (w : World) (hn : l.length = n) (hm : n ≤ 4000000) (hl : WS w A l) (hB : isB neg l = true) (hz : zI neg l = z) (h1 : -9223372036854775808 ≤ x) (h2 : x ≤ 9223372036854775807) :
    Calls Tryz.prog 76 #[.agg #[.bool neg, .slice A n c], .int .i64 x] w fun e w' => e = .returned (.bool (decide (z = x))) ∧ Below w.heap.size w w' := by
  subst hn
  have HB := Lib.hid hB
  have HZ := Lib.hid hz
  clear hB hz
  go_enter Tryz.func76, Tryz.ntmps76
  go_wp2_with fail
  obtain ⟨W1, hW1⟩ : ∃ W, W = w.alloc (.cells #[.bool neg, .slice A l.length c] 24) := ⟨_, rfl⟩
  have hbx : Box2 W1 w.heap.size (.bool neg) (.slice A l.length c) := by rw [hW1]; exact Box2.new _ _ _
  have hw1 : Below w.heap.size w W1 := by rw [hW1]; exact ba (b0 _) _
  rw [← hW1]
  clear hW1
  have y0 := hbx.cell0
  have y1 := hbx.cell1
  go_region_held3 (fun W => W.cell? ⟨w.heap.size, 0, none⟩ = some (.bool neg) ∧ W.cell? ⟨w.heap.size, 1, none⟩ = some (.slice A l.length c))
    (first | exact ⟨y0, y1⟩ | exact ⟨z0, z1⟩ | exact ⟨u0, u1⟩)
    (first
      | (go_at_call 59; refine (ROf_any W1 _ x h1 h2 (bd (b0 _) _)).mono ?_; rintro e w2 ⟨n2, A2, c2, l2, rfl, hc2, hl2, hB2, hz2, hb2⟩; have HB2 := Lib.hid hB2; have HZ2 := Lib.hid hz2; clear hB2 hz2; have z0 := (hbx.below hb2).cell0; have z1 := (hbx.below hb2).cell1; have hlen2 : l2.length ≤ 4000000 := small_len HB2.out HZ2.out h1 h2)
      | (go_at_call 17; refine (RSame_any neg n2 A A2 l.length c l2.length c2 l l2 w2 rfl rfl hm hlen2 ((hl.below hw1).below hb2) hl2).mono ?_; rintro e w3 ⟨rfl, hb3⟩; have u0 := ((hbx.below hb2).below hb3).cell0; have u1 := ((hbx.below hb2).below hb3).cell1))
  go_wp2_with fail
  go_ret
  refine ⟨ret_bool ?_, bt (bt hw1 hb2) hb3⟩
  rw [same_iff hl.1 hl2.1 HB.out HB2.out, HZ.out, HZ2.out]

set_option maxRecDepth 100000 in
set_option maxHeartbeats 400000 in
theorem short_any (n : Nat) (a b c : Bool) (A B C : Option Addr) (x y z cx cy cz : Nat) (w : World) (hx : x ≤ 4000000000) (hy : y ≤ 4000000000) (hz : z ≤ 4000000000) (hn : n ≤ 4000000000) :
    Calls Tryz.prog 11 #[.int .i64 (n : Int), .agg #[.bool a, .slice A x cx], .agg #[.bool b, .slice B y cy], .agg #[.bool c, .slice C z cz]] w fun e w' => e = .returned (.bool (decide (x ≤ n) && decide (y ≤ n) && decide (z ≤ n))) ∧ Below w.heap.size w w' := by
  go_enter Tryz.func11, Tryz.ntmps11
  by_cases h1 : x ≤ n
  · have h1i : (x : Int) ≤ (n : Int) := by omega
    by_cases h2 : y ≤ n
    · have h2i : (y : Int) ≤ (n : Int) := by omega
      by_cases h3 : z ≤ n
      · have h3i : (z : Int) ≤ (n : Int) := by omega
        go_wp2_with fail
        go_ret
        exact ⟨ret_bool (by simp [h1, h2, h3]), ba (ba (ba (b0 _) _) _) _⟩
      · have h3i : ¬ (z : Int) ≤ (n : Int) := by omega
        go_wp2_with fail
        go_ret
        exact ⟨ret_bool (by simp [h3]), ba (ba (ba (b0 _) _) _) _⟩
    · have h2i : ¬ (y : Int) ≤ (n : Int) := by omega
      go_wp2_with fail
      go_ret
      exact ⟨ret_bool (by simp [h2]), ba (ba (ba (b0 _) _) _) _⟩
  · have h1i : ¬ (x : Int) ≤ (n : Int) := by omega
    go_wp2_with fail
    go_ret
    exact ⟨ret_bool (by simp [h1]), ba (ba (ba (b0 _) _) _) _⟩
end Go.Proofs.YtgljdfblgpdaaaaGreatDoor
