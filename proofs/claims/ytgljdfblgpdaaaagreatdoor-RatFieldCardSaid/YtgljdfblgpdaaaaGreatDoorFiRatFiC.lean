/- RatField: for every input (three rational numbers, canonical or not, and two exponents) the law returns true and its arguments read as they did.
   Conditions: none but the row's own: the table 'tens' of package num holds, when the call begins, what the program's text lays (the card ties that to the text). -/
import Derived.ChangeMaps5
import Derived.Test.YtgljdfblgpdaaaaGreatDoorCards
import Derived.Test.YtgljdfblgpdaaaaGreatDoorTie
import Derived.Test.YtgljdfblgpdaaaaGreatDoorPbRatArg
import Derived.Test.YtgljdfblgpdaaaaGreatDoorFiRatFi
set_option linter.unusedSimpArgs false
set_option linter.unusedVariables false
set_option maxRecDepth 100000
set_option maxHeartbeats 4000000
namespace Go.Proofs.YtgljdfblgpdaaaaGreatDoor.ratField
open Go.ChangeMaps Go.ChangeShapes Go.WideShapes Go.ChangeAt Go.RowKit
theorem table {W : World} (h : laidMetH Tryz.prog Rows.ratFieldRow.laid W) : Tens W :=
 tens_of (Lib.tabIs_of_head (rest := []) gTab gTabType Tryz.underlying110 Tryz.underlying83 cellsW cellsTab h)
theorem contract (H : Type) (enc : TypeId × Value → H) (W : World) (base : Nat) (args : Array Value) (ds gs : List (DataW H)) (before : List MemPlace)
  (hval : ∀ (j : Nat) t v, Tryz.f8.params[j]? = some t → args[j]? = some v → Value.okWide Tryz.prog W .any base t v)
  (hW : DataW.Whole enc Tryz.prog Tryz.f8.params.toList Rows.ratFieldSpec.vars false W args.toList ds gs before) (hL : laidMetH Tryz.prog Rows.ratFieldRow.laid W) :
  Calls Tryz.prog 8 args W fun e W' => ∃ v, e = .returned v ∧ Rows.ratFieldSpec.post enc Tryz.prog Tryz.f8 false true false false W args v W' := by
 have hW' := hW
 obtain ⟨p, q, hA0, hV, rfl, hfz, hnd⟩ := hW
 have hA : DataW.TrodAll enc Tryz.prog W 0 (fun _ => true) true Tryz.f8.params.toList args.toList ds p := hA0
 rw [Tryz.params8] at hA hval
 obtain ⟨v0, vs0, d0, ds0, p0, q0, hargs, rfl, rfl, h0, r0⟩ := trodAll_cons hA
 obtain ⟨v1, vs1, d1, ds1, p1, q1, rfl, rfl, rfl, h1, r1⟩ := trodAll_cons r0
 obtain ⟨v2, vs2, d2, ds2, p2, q2, rfl, rfl, rfl, h2, r2⟩ := trodAll_cons r1
 obtain ⟨v3, vs3, d3, ds3, p3, q3, rfl, rfl, rfl, h3, r3⟩ := trodAll_cons r2
 obtain ⟨v4, vs4, d4, ds4, p4, q4, rfl, rfl, rfl, h4, r4⟩ := trodAll_cons r3
 obtain ⟨rfl, rfl, rfl⟩ := trodAll_nil r4
 obtain rfl : args = #[v0, v1, v2, v3, v4] := by cases args; simp_all
 obtain ⟨rfl, rfl⟩ := trodVars_none hV
 obtain ⟨n0, A0, c0, l0, m0, B0, e0, k0, rfl, hc0, hd0, hl0, hk0, st0⟩ := open_Q (hval 0 35 _ rfl rfl) h0
 obtain ⟨n1, A1, c1, l1, m1, B1, e1, k1, rfl, hc1, hd1, hl1, hk1, st1⟩ := open_Q (hval 1 35 _ rfl rfl) h1
 obtain ⟨n2, A2, c2, l2, m2, B2, e2, k2, rfl, hc2, hd2, hl2, hk2, st2⟩ := open_Q (hval 2 35 _ rfl rfl) h2
 obtain ⟨N3, rfl, rfl, rfl, hN3⟩ := open_int Tryz.underlying63 (hval 3 63 _ rfl rfl) h3
 obtain ⟨N4, rfl, rfl, rfl, hN4⟩ := open_int Tryz.underlying63 (hval 4 63 _ rfl rfl) h4
 refine (RatField_walk W hl0 hk0 ⟨hc0, hd0⟩ hl1 hk1 ⟨hc1, hd1⟩ hl2 hk2 ⟨hc2, hd2⟩ (table hL)).mono fun e W' ⟨he, hb⟩ => ?_
 subst he
 refine ⟨_, rfl, post_below (pa := (p0 ++ (p1 ++ (p2 ++ ([] ++ ([] ++ [])))))) (pv := []) hW' (fun _ _ _ => trodAll_cons_mk (shut_bool Tryz.underlying4 _) trodAll_mk0) (fun sp hsp => ?_) (fun _ _ => rfl) rfl hb (ok_one (by kernel_rfl) rfl (okWide_bool_mk Tryz.underlying4 _))⟩
 exact (trodAll_cons_mk (st0 W' hb sp (fun x hx => hsp x (by simp [hx]))) (trodAll_cons_mk (st1 W' hb sp (fun x hx => hsp x (by simp [hx]))) (trodAll_cons_mk (st2 W' hb sp (fun x hx => hsp x (by simp [hx]))) (trodAll_cons_mk (shut_int Tryz.underlying63 hN3) (trodAll_cons_mk (shut_int Tryz.underlying63 hN4) trodAll_mk0)))))
abbrev wargs : Array Value := #[.agg #[.bool false, .slice none 0 0, .bool false, .slice none 0 0], .agg #[.bool false, .slice none 0 0, .bool false, .slice none 0 0], .agg #[.bool false, .slice none 0 0, .bool false, .slice none 0 0], .int .i8 0, .int .i8 0]
theorem laid_met (os : Os) : laidMet Tryz.prog Rows.ratFieldRow.laid ((laidWorld os).forCall (fun _ _ => 0) ⟨#[], wargs, []⟩).memory :=
 laidMet_of_run' 8 (by kernel_rfl) (by kernel_rfl)
theorem reads (os : Os) {H : Type} (enc : TypeId × Value → H) : ∃ places, DataW.whole enc Tryz.prog ((laidWorld os).forCall (fun _ _ => 0) ⟨#[], wargs, []⟩).memory Tryz.f8.params.toList Rows.ratFieldSpec.vars false wargs.toList 8 = some ([.agg [.agg [.lit (.bool false), .nil], .agg [.lit (.bool false), .nil]], .agg [.agg [.lit (.bool false), .nil], .agg [.lit (.bool false), .nil]], .agg [.agg [.lit (.bool false), .nil], .agg [.lit (.bool false), .nil]], .lit (.int .i8 0), .lit (.int .i8 0)], [], places) :=
 ⟨[], by kernel_rfl⟩
theorem lifted (os : Os) (started : os.Started) (H : Type) (enc : TypeId × Value → H) (F : Stop.Interp) :
  ReturnsInHanded {} Tryz.checked os 8 .any ((OpenSpec.ofChange Rows.ratFieldSpec).preRow enc Tryz.prog Tryz.f8 Rows.ratFieldRow.domain false Rows.ratFieldRow.laid) (((OpenSpec.ofChange Rows.ratFieldSpec).at F).post enc Tryz.prog Tryz.f8 false true false false) := by
 obtain ⟨places, hx⟩ := reads os enc
 refine returnsInHanded_of_row (C := Tryz.checked) (s := OpenSpec.ofChange Rows.ratFieldSpec) own started (by kernel_rfl) Tryz.func8
  (witness_row_at (enc := enc) (C := Tryz.checked) false (laidWorld os) wargs rfl (by kernel_rfl) (by kernel_rfl) (by kernel_rfl)
   (OpenSpec.preRow_of_cond 8 hx (by kernel_rfl) (fun k hk => by cases hk) (by kernel_rfl) (laid_met os))) ?_
 intro W base args ds gs before hval hW _ _ _ hL _ _
 exact contract H enc W base args ds gs before hval hW hL
theorem said : Rows.RatFieldSaid :=
 OpenClaim.holds_of_cond 8 Tryz.f8 rfl rfl rfl rfl rfl rfl rfl ⟨rfl, rfl, rfl, rfl, rfl⟩ rfl rfl rfl rfl rfl (by kernel_rfl) Tryz.func8 (by kernel_rfl)
  (of_decide_eq_true (by kernel_rfl)) (by unfold Func.isWrapper; first | (rw [if_pos (by decide +kernel)]; kernel_rfl) | (rw [if_neg (by decide +kernel)]; exact ⟨rfl, rfl⟩))
  (fun os started H enc _ F => by rw [OpenClaim.pre_eq_preRow]; exact lifted os started H enc F)
theorem plain (f : FuncId) (fn : Func) (hf : Tryz.pinned.checked.prog.funcNamed "quadratrix/quadratrixlaw02.RatField" = some f) (hfn : Tryz.pinned.checked.prog.funcs[f]? = some fn) :
  true = Tryz.pinned.checked.prog.looks [] ∧ ∀ (j : Nat) t, fn.params[j]? = some t → Tryz.pinned.checked.prog.wantsStandIn t = false := by
 obtain rfl : f = 8 := Option.some.inj ((show Tryz.prog.funcNamed "quadratrix/quadratrixlaw02.RatField" = some 8 by kernel_rfl).symm.trans hf) |>.symm
 obtain rfl : fn = Tryz.f8 := (Option.some.inj (Tryz.func8.symm.trans hfn)).symm
 refine ⟨by kernel_rfl, fun j t ht => ?_⟩
 rw [Tryz.params8] at ht
 have ht' : t = 35 ∨ t = 63 := by
  have := Array.mem_of_getElem? ht
  simp at this
  first | omega | exact this | exact this.symm
 rcases ht' with rfl | rfl
 ·exact (show Tryz.prog.wantsStandIn 35 = false by kernel_rfl)
 ·exact (show Tryz.prog.wantsStandIn 63 = false by kernel_rfl)
theorem card : Rows.RatFieldCardSaid :=
 Claim7.holds_tied_plain_at .later [] _ _ _ _ said (fun _ h => by cases h) (by kernel_rfl) (fun _ h => by cases h) ratField_row_tie rfl ⟨rfl, rfl⟩ (by kernel_rfl) rfl plain (by kernel_rfl)
end Go.Proofs.YtgljdfblgpdaaaaGreatDoor.ratField
