/- The calls of 'sane': what they return, of arguments in canonical form, wherever these lie. -/
import Derived.Test.YtgljdfblgpdaaaaGreatDoorNumRef
import Derived.Test.YtgljdfblgpdaaaaGreatDoorNumGcd
import Derived.Test.YtgljdfblgpdaaaaGreatDoorNumPow
import Derived.Deep.RegionHeld3
import Derived.Test.YtgljdfblgpdaaaaGreatDoorNumTxM
import Derived.Lib.SmallJoins
import Derived.ProofKit
import Derived.OpenShut
import Derived.Deep.DeepHandedRow
import Derived.Lib.LaidTab
set_option linter.unusedSimpArgs false
set_option linter.unusedVariables false
/-! The calls of 'sane': what they return, of arguments in canonical form, wherever these lie. -/
namespace Go.Proofs.YtgljdfblgpdaaaaGreatDoor
open Go.RowKit

theorem canon_eq {n1 n2 : Bool} {l1 l2 : List Nat} (w1 : ∀ x ∈ l1, x < 4294967296) (w2 : ∀ x ∈ l2, x < 4294967296) (h1 : isB n1 l1 = true) (h2 : isB n2 l2 = true) (h : zI n1 l1 = zI n2 l2) : n1 = n2 ∧ l1 = l2 := by
  have e := same_iff w1 w2 h1 h2
  rw [decide_eq_true h, Bool.and_eq_true, beq_iff_eq, decide_eq_true_eq] at e
  exact e
theorem len_two {n : Bool} {l : List Nat} {x : Int} (hB : isB n l = true) (hz : zI n l = x) (hx : x.natAbs < 18446744073709551616) : l.length ≤ 2 := by
  have e : val l = x.natAbs := by rw [← hz]; unfold zI; split <;> simp
  exact top_len (isB_top hB) (by rw [e]; exact hx)

/-- Div of small canonical integers. -/
theorem Div_small (a w : World) (na nb : Bool) (A B : Option Addr) (c d : Nat) (l k : List Nat) (x y : Int) (hl : WS w A l) (hk : WS w B k) (hp : isB na l = true) (hq : isB nb k = true) (hx : zI na l = x) (hy : zI nb k = y) (hxl : x.natAbs < 18446744073709551616) (hyl : y.natAbs < 18446744073709551616) (hy0 : y ≠ 0) (hw : Below a.heap.size a w) :
    Calls Tryz.prog 13 #[.agg #[.bool na, .slice A l.length c], .agg #[.bool nb, .slice B k.length d]] w (QRes a (x / y) (x % y) 0) := by
  have h1 := len_two hp hx hxl
  have h2 := len_two hq hy hyl
  have h0 : 0 < k.length := Nat.pos_of_ne_zero (fun h => hy0 (by rw [← hy, List.eq_nil_of_length_eq_zero h, zI_nil]))
  rw [← hx, ← hy]
  exact Div_ok a w na nb A B l.length c k.length d l k rfl rfl (by omega) (by omega) hl hk hp hq h0 (fun W hW => divide_small W W A B l.length c k.length d l k rfl rfl h1 h2 (hl.below hW) (hk.below hW) (Nat.ne_of_gt (val_pos (isB_top hq) h0)) (b0 _)) hw

theorem Bez_12_18 (w : World) (na nb : Bool) (A B : Option Addr) (c d : Nat) (l k : List Nat) (hl : WS w A l) (hk : WS w B k) (hp : isB na l = true) (hq : isB nb k = true) (hx : zI na l = 12) (hy : zI nb k = 18) :
    Calls Tryz.prog 15 #[.agg #[.bool na, .slice A l.length c], .agg #[.bool nb, .slice B k.length d]] w (BRes w 6 2 (-1)) := by
  obtain ⟨rfl, rfl⟩ := canon_eq hl.1 (l2 := [12]) (n2 := false) (by simp) hp (by decide) (by rw [hx]; decide)
  obtain ⟨rfl, rfl⟩ := canon_eq hk.1 (l2 := [18]) (n2 := false) (by simp) hq (by decide) (by rw [hy]; decide)
  refine (Bezout_small w false false A B 1 c 1 d [12] [18] rfl rfl (by omega) (by omega) hl hk hp hq (by simp) (by decide)).mono ?_
  rintro e w' ⟨U, ⟨h1, z, h2⟩, h3⟩
  rw [show val [12] = 12 from rfl, show val [18] = 18 from rfl, show Nat.gcd 12 18 = 6 from by decide] at h1 h2 h3
  simp only [Bool.false_eq_true, if_false] at h2 h3
  have hU : U = 2 := by
    have h4 : U < 3 := by omega
    have h5 : U = 0 ∨ U = 1 ∨ U = 2 := by omega
    rcases h5 with rfl | rfl | rfl
    · simp at h2; omega
    · simp at h2; omega
    · rfl
  subst hU
  exact h3

theorem Gcd_12_18 (a w : World) (na nb : Bool) (A B : Option Addr) (c d : Nat) (l k : List Nat) (hl : WS w A l) (hk : WS w B k) (hp : isB na l = true) (hq : isB nb k = true) (hx : zI na l = -12) (hy : zI nb k = 18) (hw : Below a.heap.size a w) :
    Calls Tryz.prog 24 #[.agg #[.bool na, .slice A l.length c], .agg #[.bool nb, .slice B k.length d]] w (IRes a 6) := by
  obtain ⟨rfl, rfl⟩ := canon_eq hl.1 (l2 := [12]) (n2 := true) (by simp) hp (by decide) (by rw [hx]; decide)
  obtain ⟨rfl, rfl⟩ := canon_eq hk.1 (l2 := [18]) (n2 := false) (by simp) hq (by decide) (by rw [hy]; decide)
  have h := Gcd_small a w true false A B 1 c 1 d [12] [18] true true rfl rfl (by omega) (by omega) hl hk (by decide) (by decide) hw
  rw [show ite0 (true && true) ((Nat.gcd (val [12]) (val [18]) : Nat) : Int) = 6 from by decide] at h
  exact h

theorem Pow_m3_3 (a w : World) (na : Bool) (A : Option Addr) (c : Nat) (l : List Nat) (hl : WS w A l) (hp : isB na l = true) (hx : zI na l = -3) (hw : Below a.heap.size a w) :
    Calls Tryz.prog 72 #[.agg #[.bool na, .slice A l.length c], .int .i64 3] w fun e w' => ∃ n1 A1 c1 l1, e = .returned (.tuple #[.agg #[.bool n1, .slice A1 l1.length c1], .int .i64 0]) ∧ IP a w' n1 A1 c1 l1 (-27) ∧ Below a.heap.size a w' := by
  obtain ⟨rfl, rfl⟩ := canon_eq hl.1 (l2 := [3]) (n2 := true) (by simp) hp (by decide) (by rw [hx]; decide)
  have h := Pow_small a w true A c [3] 3 (by simp) (by omega) (by decide) (by decide) (by decide) (by decide) hl hw
  rw [show zI true [3] ^ 3 = -27 from by decide] at h
  exact h

theorem Sqrt_99' (a w : World) (na : Bool) (A : Option Addr) (c : Nat) (l : List Nat) (hl : WS w A l) (hp : isB na l = true) (hx : zI na l = 99) (hw : Below a.heap.size a w) :
    Calls Tryz.prog 73 #[.agg #[.bool na, .slice A l.length c]] w fun e w' => ∃ n1 A1 c1 l1, e = .returned (.tuple #[.agg #[.bool n1, .slice A1 l1.length c1], .int .i64 0]) ∧ IP a w' n1 A1 c1 l1 9 ∧ Below a.heap.size a w' := by
  obtain ⟨rfl, rfl⟩ := canon_eq hl.1 (l2 := [99]) (n2 := false) (by simp) hp (by decide) (by rw [hx]; decide)
  exact Sqrt_99 a w A c hl hw

theorem smallV_of {n : Bool} {l : List Nat} {x : Int} (hB : isB n l = true) (hx : zI n l = x) (h1 : -9223372036854775808 ≤ x) (h2 : x < 9223372036854775808) : smallV true n l = (x, 0) := by
  have hl := len_two hB hx (by omega)
  rw [small_spec hl, hx]
  have e : zI n l = if n then -(val l : Int) else (val l : Int) := rfl
  rw [hx] at e
  rw [if_neg (by simp), if_neg]
  cases n <;> simp at e ⊢ <;> omega
end Go.Proofs.YtgljdfblgpdaaaaGreatDoor

/-! The laws' helpers: short, Same, and what a region that loads two integers holds. -/
namespace Go.Proofs.YtgljdfblgpdaaaaGreatDoor
open Go.RowKit

theorem bdn {w w' : World} {n : Nat} (h : Below (w.drewN n).heap.size (w.drewN n) w') : Below w.heap.size w w' := ⟨h.os, h.tape, h.output, h.size, h.block⟩

set_option maxRecDepth 100000 in
set_option maxHeartbeats 400000 in
theorem short_wide (n : Nat) (a b c : Bool) (A B C : Option Addr) (x y z cx cy cz : Nat) (w : World) (hn : n ≤ 4000000000) (r : Bool) (hr : (decide (x ≤ n) && decide (y ≤ n) && decide (z ≤ n)) = r) :
    Calls Tryz.prog 11 #[.int .i64 (n : Int), .agg #[.bool a, .slice A x cx], .agg #[.bool b, .slice B y cy], .agg #[.bool c, .slice C z cz]] w fun e w' => e = .returned (.bool r) ∧ Below w.heap.size w w' := by
  subst hr
  go_enter Tryz.func11, Tryz.ntmps11
  by_cases h1 : x ≤ n
  · have h1i : (x : Int) ≤ (n : Int) := by omega
    by_cases h2 : y ≤ n
    · have h2i : (y : Int) ≤ (n : Int) := by omega
      by_cases h3 : z ≤ n
      · have h3i : (z : Int) ≤ (n : Int) := by omega
        go_wp2_with fail
        go_ret
        exact ⟨ret_bool (by simp [h1, h2, h3]), ba (ba (ba (b0 _) _) _) _⟩
      · have h3i : ¬ (z : Int) ≤ (n : Int) := by omega
        go_wp2_with fail
        go_ret
        exact ⟨ret_bool (by simp [h3]), ba (ba (ba (b0 _) _) _) _⟩
    · have h2i : ¬ (y : Int) ≤ (n : Int) := by omega
      go_wp2_with fail
      go_ret
      exact ⟨ret_bool (by simp [h2]), ba (ba (ba (b0 _) _) _) _⟩
  · have h1i : ¬ (x : Int) ≤ (n : Int) := by omega
    go_wp2_with fail
    go_ret
    exact ⟨ret_bool (by simp [h1]), ba (ba (ba (b0 _) _) _) _⟩

theorem box4 {W : World} {p q : Nat} {u v x y : Value} (h : Box2 W p u v) (k : Box2 W q x y) : W.cell? ⟨p, 0, none⟩ = some u ∧ W.cell? ⟨p, 1, none⟩ = some v ∧ W.cell? ⟨q, 0, none⟩ = some x ∧ W.cell? ⟨q, 1, none⟩ = some y :=
  ⟨h.cell0, h.cell1, k.cell0, k.cell1⟩
theorem ires_len {n : Bool} {l0 l : List Nat} {z : Int} (hz : zI n l = z) (hB : isB n l = true) (hw : ∀ x ∈ l0, x < 4294967296) (h : z.natAbs = val l0 ∨ z = 0) : l.length ≤ l0.length := by
  have e : val l = z.natAbs := by rw [← hz]; unfold zI; split <;> simp
  rcases h with h | h
  · exact top_len (isB_top hB) (by rw [e, h]; exact val_lt hw)
  · have : val l = 0 := by rw [e, h]; rfl
    rw [(val_eq_zero (isB_top hB)).1 this]; omega

theorem same_of {w : World} {z : Int} {n1 n2 : Bool} {A B : Option Addr} {c d : Nat} {l k : List Nat} (hl : WS w A l) (hk : WS w B k) (h1 : isB n1 l = true) (h2 : isB n2 k = true) (e1 : zI n1 l = z) (e2 : zI n2 k = z) (hm : l.length ≤ 4000000) (hm2 : k.length ≤ 4000000) :
    Calls Tryz.prog 17 #[.agg #[.bool n1, .slice A l.length c], .agg #[.bool n2, .slice B k.length d]] w fun e w' => e = .returned (.bool true) ∧ Below w.heap.size w w' := by
  have h := RSame_any n1 n2 A B l.length c k.length d l k w rfl rfl hm hm2 hl hk
  rw [same_iff hl.1 hk.1 h1 h2, e1, e2, decide_eq_true rfl] at h
  exact h

end Go.Proofs.YtgljdfblgpdaaaaGreatDoor

/-! An integer that comes in: what it reads as, and that it reads so behind a call that turns nothing. -/
namespace Go.Proofs.YtgljdfblgpdaaaaGreatDoor
open Go.ChangeShapes Go.WideShapes Go.ChangeAt Go.RowKit Go.Joins

section
variable {H : Type} {enc : TypeId × Value → H} {P : Program}
/-- What stands behind a call that turned nothing that lay. -/
theorem post_below {f : Func} {s : ChangeSpec} {apart fresh handsOn again : Bool} {W W' : World} {args : Array Value} {v : Value} {ds gs : List (DataW H)} {before pa pv : List MemPlace}
    (hW : DataW.Whole enc P f.params.toList s.vars apart W args.toList ds gs before)
    (hres : ∀ (b : Nat) (sp : Nat → Bool) (hd : Bool), DataW.TrodAll enc P W' b sp hd f.resultTypes.toList (v.resultList f.resultTypes.size) (s.fn H (ds ++ gs)).results [])
    (hargs : ∀ sp : Nat → Bool, (∀ p ∈ before, sp p.block = true) → DataW.TrodAll enc P W' 0 sp true f.params.toList args.toList (s.fn H (ds ++ gs)).args pa)
    (hvars : ∀ sp : Nat → Bool, (∀ p ∈ before, sp p.block = true) → DataW.TrodVars enc P W' sp s.vars (s.fn H (ds ++ gs)).vars pv)
    (hps : before = pa ++ pv) (hb : Below W.heap.size W W')
    (hok : ∀ (j : Nat) (t : TypeId) (r : Value), f.resultTypes[j]? = some t → (v.resultList f.resultTypes.size)[j]? = some r → Value.okWide P W' .any 0 t r) :
    s.post enc P f apart fresh handsOn again W args v W' := by
  have hlt : ∀ p ∈ before, p.block < W.heap.size := fun p hp => hW.lt p hp
  refine ⟨ds, gs, before, [], pa, pv, hW, hres _ _ _, hargs _ (fun p hp => by simpa using hlt p hp), hvars _ (fun p hp => by simpa using hlt p hp), World.keptBut_mono (fun p hp => ⟨hp, ?_⟩) (hb.frame (· ∈ before)), fun _ => ?_⟩
  · rw [hps, List.mem_append] at hp
    exact Or.inr hp
  · obtain ⟨_, _, _, _, _, hz, hn⟩ := hW
    refine ⟨hok, _, _, ([] ++ pa) ++ pv, ⟨[] ++ pa, pv, trodAll_append (hargs _ (fun _ _ => rfl)) (hres _ _ _), hvars _ (fun _ _ => rfl), rfl, ?_, ?_⟩, ?_⟩
    · intro b off hp
      have hin : MemPlace.cell b off ∈ before := by rw [hps]; simpa using hp
      rw [hb.frozen (hlt _ hin)]
      exact hz b off hin
    · intro ha
      have := hn ha
      rw [hps] at this
      simpa using this
    · intro p hp _
      rw [hps]
      simpa using hp
end

theorem cellsInt : Tryz.prog.cellsOf 24 = 2 := by kernel_rfl
theorem cellsW : Tryz.prog.cellsOf 83 = 1 := by kernel_rfl

theorem wf_u32 {n : Int} (h : (Lit.int .u32 n).wf = true) : 0 ≤ n ∧ n < 4294967296 := by
  simp [Lit.wf, IntKind.min, IntKind.max, IntKind.signed, IntKind.bits] at h
  omega
theorem wf_i64 {n : Int} (h : (Lit.int .i64 n).wf = true) : -9223372036854775808 ≤ n ∧ n ≤ 9223372036854775807 := by
  simp [Lit.wf, IntKind.min, IntKind.max, IntKind.signed, IntKind.bits] at h
  omega

set_option maxRecDepth 100000
/-- What was read reads so in every later world. -/
def Stays {H : Type} (enc : TypeId × Value → H) (W : World) (t : TypeId) (v : Value) (d : DataW H) (ps : List MemPlace) : Prop :=
  ∀ W', Below W.heap.size W W' → ∀ sp : Nat → Bool, (∀ p ∈ ps, sp p.block = true) → DataW.Trod enc Tryz.prog W' 0 sp true t v d ps

set_option maxRecDepth 100000 in
theorem open_I {H : Type} {enc : TypeId × Value → H} {W : World} {b0 : Nat} {v : Value} {d : DataW H} {ps : List MemPlace}
    (hval : Value.okWide Tryz.prog W .any b0 24 v) (h : DataW.Trod enc Tryz.prog W 0 (fun _ => true) true 24 v d ps) :
    ∃ neg A c l, v = .agg #[.bool neg, .slice A l.length c] ∧ l.length ≤ c ∧ WS W A l ∧ Stays enc W 24 v d ps := by
  obtain ⟨c0, c1, y0, y1, m, rfl, rfl, rfl, hy0, hy1⟩ := open_agg2 Tryz.underlying24 (by kernel_rfl) cellsInt hval h
  obtain ⟨neg, e0, rfl⟩ := DataW.trod_bool Tryz.underlying4 hy0
  simp at e0
  subst e0
  have tb : ∀ (W' : World) (sp : Nat → Bool), DataW.trod enc Tryz.prog W' 0 sp true 1 4 [.bool neg] = some (.lit (.bool neg), []) := fun W' sp => by simp [DataW.trod, Tryz.underlying4]
  rcases open_ints Tryz.underlying22 Tryz.underlying83 cellsW hy1 with ⟨hc, rfl⟩ | ⟨a, len, cap, zs, hc, _, hl, hm, hz, rfl, hcl, hwz⟩
  · simp at hc
    subst hc
    refine ⟨neg, none, 0, [], rfl, Nat.le_refl _, WS.nil_ _ _, fun W' _ sp _ => ?_⟩
    exact shut_agg2 (y0 := (.lit (.bool neg), [])) (y1 := (.nil, [])) Tryz.underlying24 (by kernel_rfl) cellsInt ⟨1, tb W' sp⟩ ⟨1, by simp [DataW.trod, Tryz.underlying22]⟩
  · simp at hc
    subst hc
    simp only [if_true] at hz
    have hlen : ((zs.take len).map Int.toNat).length = len := by simp; omega
    refine ⟨neg, some a, cap, (zs.take len).map Int.toNat, by rw [hlen], by rw [hlen]; exact hl, ⟨?_, ?_⟩, ?_⟩
    · intro x hx
      obtain ⟨n, hn, rfl⟩ := List.mem_map.1 hx
      have := wf_u32 (hwz n (List.mem_of_mem_take hn))
      omega
    · intro hne
      have hpos : 0 < len := by
        rcases Nat.eq_zero_or_pos len with h0 | h0
        · rw [h0] at hne; exact absurd rfl hne
        · exact h0
      have g0 := hcl 0 (by omega)
      obtain ⟨b, off, spot⟩ := a
      have hspot : spot = none := by simpa [Addr.add] using World.cell?_spot g0
      subst hspot
      refine ⟨b, off, rfl, ?_, fun j hj => ?_⟩
      · have := World.block_lt_of_cell? W _ g0
        rwa [add_plain] at this
      · rw [hlen] at hj
        have g := hcl j (by omega)
        rw [add_plain] at g
        rw [g]
        have hj' : j < zs.length := by omega
        have hw := wf_u32 (hwz _ (List.getElem_mem hj'))
        simp [gd, List.getD_eq_getElem?_getD, List.getElem?_take, hj, List.getElem?_eq_getElem hj']
        omega
    · intro W' hb sp hsp
      have t1 : DataW.trod enc Tryz.prog W' 0 sp true 2 22 [.slice (some a) len cap] = some (.slice (lits .u32 (zs.take len)) (lits .u32 (zs.drop len)), MemPlace.row a zs.length) := by
        refine shut_ints 0 Tryz.underlying22 Tryz.underlying83 cellsW (Nat.zero_le _) hl hm ?_ (fun i hi => ?_) hwz
        · rcases Nat.eq_zero_or_pos cap with h0 | h0
          · have : len = 0 := by omega
            rw [h0, this, hz, h0]; split <;> rfl
          · have hmem : MemPlace.cell a.block (a.off + 0) ∈ MemPlace.row a zs.length := MemPlace.mem_row.2 ⟨0, by omega, rfl⟩
            have hb1 : sp a.block = true := hsp (MemPlace.cell a.block (a.off + 0)) (by simpa using hmem)
            rw [if_pos hb1, hz]
        · have g := hcl i hi
          have hlt := World.block_lt_of_cell? W _ g
          exact (hb.cell (p := a.add i) hlt).trans g
      exact shut_agg2 (y0 := (.lit (.bool neg), [])) (y1 := (.slice (lits .u32 (zs.take len)) (lits .u32 (zs.drop len)), MemPlace.row a zs.length)) Tryz.underlying24 (by kernel_rfl) cellsInt ⟨1, tb W' sp⟩ ⟨2, t1⟩

theorem gTab : Tryz.prog.globalNamed "quadratrix/num.tens" = some 0 := by kernel_rfl
theorem gTabType : (Tryz.prog.globals[0]?).map (·.type) = some 110 := by kernel_rfl
theorem cellsTab : Tryz.prog.cellsOf 110 = 10 := by kernel_rfl
set_option maxRecDepth 100000 in
theorem tens_of {W : World} (h : Lib.TabIs Tryz.prog W "quadratrix/num.tens" .u32 [1, 10, 100, 1000, 10000, 100000, 1000000, 10000000, 100000000, 1000000000]) : Tens W := fun i hi => by
  have g := h.cell gTab i (by simp; omega)
  rw [g]
  have : i = 0 ∨ i = 1 ∨ i = 2 ∨ i = 3 ∨ i = 4 ∨ i = 5 ∨ i = 6 ∨ i = 7 ∨ i = 8 ∨ i = 9 := by omega
  rcases this with rfl | rfl | rfl | rfl | rfl | rfl | rfl | rfl | rfl | rfl <;> rfl
theorem own : ownKnob Tryz.prog.godebug = none := by kernel_rfl

/-- A WORLD FOR THE WITNESS: the table's cells hold what its initialiser lays. -/
noncomputable def laidWorld (os : Os) : World :=
  { World.holding Tryz.prog os ⟨#[], #[], []⟩ with heap := (World.holding Tryz.prog os ⟨#[], #[], []⟩).heap.modify 0 fun
      | .cells _ t frozen => .cells #[.int .u32 1, .int .u32 10, .int .u32 100, .int .u32 1000, .int .u32 10000, .int .u32 100000, .int .u32 1000000, .int .u32 10000000, .int .u32 100000000, .int .u32 1000000000] t frozen
      | o => o }
end Go.Proofs.YtgljdfblgpdaaaaGreatDoor
