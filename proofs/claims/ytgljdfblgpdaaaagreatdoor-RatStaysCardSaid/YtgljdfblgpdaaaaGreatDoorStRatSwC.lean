/- RatStays: for every input (two rational numbers and a list of them, canonical or not, and an exponent) the law returns true and its arguments read as they did.
   Conditions: none but the row's own: the table 'tens' of package num holds, when the call begins, what the program's text lays (the card ties that to the text); each slice that comes in takes at most 2^47 - 4096 bytes. -/
import Derived.ChangeMaps5
import Derived.Test.YtgljdfblgpdaaaaGreatDoorCards
import Derived.Test.YtgljdfblgpdaaaaGreatDoorTie
import Derived.Test.YtgljdfblgpdaaaaGreatDoorStRatQL
import Derived.Test.YtgljdfblgpdaaaaGreatDoorStRatSw
set_option linter.unusedSimpArgs false
set_option linter.unusedVariables false
set_option maxRecDepth 100000
set_option maxHeartbeats 4000000
namespace Go.Proofs.YtgljdfblgpdaaaaGreatDoor.ratStays
open Go.ChangeMaps Go.ChangeShapes Go.WideShapes Go.ChangeAt Go.RowKit
theorem table {W : World} (h : laidMetH Tryz.prog Rows.ratStaysRow.laid W) : Tens W :=
 tens_of (Lib.tabIs_of_head (rest := []) gTab gTabType Tryz.underlying110 Tryz.underlying83 cellsW cellsTab h)
theorem contract (H : Type) (enc : TypeId × Value → H) (W : World) (base : Nat) (args : Array Value) (ds gs : List (DataW H)) (before : List MemPlace)
  (hval : ∀ (j : Nat) t v, Tryz.f10.params[j]? = some t → args[j]? = some v → Value.okWide Tryz.prog W .any base t v)
  (hW : DataW.Whole enc Tryz.prog Tryz.f10.params.toList Rows.ratStaysSpec.vars false W args.toList ds gs before) (hL : laidMetH Tryz.prog Rows.ratStaysRow.laid W) : (DataW.weightsEach Tryz.prog (Tryz.f10.params.toList ++ (OpenSpec.ofChange Rows.ratStaysSpec).bare.plain.varTypes Tryz.prog) (ds ++ gs)).all (· ≤ reachBytes) = true →
  Calls Tryz.prog 10 args W fun e W' => ∃ v, e = .returned v ∧ Rows.ratStaysSpec.post enc Tryz.prog Tryz.f10 false true false false W args v W' := by
 have hW' := hW
 obtain ⟨p, q, hA0, hV, rfl, hfz, hnd⟩ := hW
 have hA : DataW.TrodAll enc Tryz.prog W 0 (fun _ => true) true Tryz.f10.params.toList args.toList ds p := hA0
 rw [Tryz.params10] at hA hval
 obtain ⟨v0, vs0, d0, ds0, p0, q0, hargs, rfl, rfl, h0, r0⟩ := trodAll_cons hA
 obtain ⟨v1, vs1, d1, ds1, p1, q1, rfl, rfl, rfl, h1, r1⟩ := trodAll_cons r0
 obtain ⟨v2, vs2, d2, ds2, p2, q2, rfl, rfl, rfl, h2, r2⟩ := trodAll_cons r1
 obtain ⟨v3, vs3, d3, ds3, p3, q3, rfl, rfl, rfl, h3, r3⟩ := trodAll_cons r2
 obtain ⟨rfl, rfl, rfl⟩ := trodAll_nil r3
 obtain rfl : args = #[v0, v1, v2, v3] := by cases args; simp_all
 obtain ⟨rfl, rfl⟩ := trodVars_none hV
 obtain ⟨n0, A0, c0, l0, m0, B0, e0, k0, rfl, hc0, hd0, hl0, hk0, st0⟩ := open_Q (hval 0 35 _ rfl rfl) h0
 obtain ⟨n1, A1, c1, l1, m1, B1, e1, k1, rfl, hc1, hd1, hl1, hk1, st1⟩ := open_Q (hval 1 35 _ rfl rfl) h1
 obtain ⟨A2, c2, z2, rfl, hc2, hl2, sh2, st2⟩ := open_QLs (hval 2 53 _ rfl rfl) h2
 intro hsz
 have sz2 : z2.length * 64 ≤ 140737488351232 := by
  rcases sh2 with ⟨_, rfl⟩ | ⟨el, sp, rfl, he⟩
  ·simp
  ·have := sized_slice hsz (j := 2) (t := 53) (e := 35) (by rw [Tryz.params10]; rfl) rfl Tryz.underlying53
   rw [bytesRat, he] at this
   simp only [reachBytes] at this
   omega
 obtain ⟨N3, rfl, rfl, rfl, hN3⟩ := open_int Tryz.underlying3 (hval 3 3 _ rfl rfl) h3
 refine (RatStays_walk (a := ⟨n0, A0, c0, l0, m0, B0, e0, k0⟩) (b := ⟨n1, A1, c1, l1, m1, B1, e1, k1⟩) W hl0 hk0 ⟨hc0, hd0⟩ hl1 hk1 ⟨hc1, hd1⟩ hl2 (by omega) (wf_i64 hN3) (table hL)).mono fun e W' ⟨he, hb⟩ => ?_
 subst he
 refine ⟨_, rfl, post_below (pa := (p0 ++ (p1 ++ (p2 ++ ([] ++ []))))) (pv := []) hW' (fun _ _ _ => trodAll_cons_mk (shut_bool Tryz.underlying4 _) trodAll_mk0) (fun sp hsp => ?_) (fun _ _ => rfl) rfl hb (ok_one (by kernel_rfl) rfl (okWide_bool_mk Tryz.underlying4 _))⟩
 exact (trodAll_cons_mk (st0 W' hb sp (fun x hx => hsp x (by simp [hx]))) (trodAll_cons_mk (st1 W' hb sp (fun x hx => hsp x (by simp [hx]))) (trodAll_cons_mk (st2 W' hb sp (fun x hx => hsp x (by simp [hx]))) (trodAll_cons_mk (shut_int Tryz.underlying3 hN3) trodAll_mk0))))
abbrev wargs : Array Value := #[.agg #[.bool false, .slice none 0 0, .bool false, .slice none 0 0], .agg #[.bool false, .slice none 0 0, .bool false, .slice none 0 0], .slice none 0 0, .int .i64 0]
theorem laid_met (os : Os) : laidMet Tryz.prog Rows.ratStaysRow.laid ((laidWorld os).forCall (fun _ _ => 0) ⟨#[], wargs, []⟩).memory :=
 laidMet_of_run' 8 (by kernel_rfl) (by kernel_rfl)
theorem reads (os : Os) {H : Type} (enc : TypeId × Value → H) : ∃ places, DataW.whole enc Tryz.prog ((laidWorld os).forCall (fun _ _ => 0) ⟨#[], wargs, []⟩).memory Tryz.f10.params.toList Rows.ratStaysSpec.vars false wargs.toList 8 = some ([.agg [.agg [.lit (.bool false), .nil], .agg [.lit (.bool false), .nil]], .agg [.agg [.lit (.bool false), .nil], .agg [.lit (.bool false), .nil]], .nil, .lit (.int .i64 0)], [], places) :=
 ⟨[], by kernel_rfl⟩
theorem lifted (os : Os) (started : os.Started) (H : Type) (enc : TypeId × Value → H) (F : Stop.Interp) :
  ReturnsInHanded {} Tryz.checked os 10 .any ((OpenSpec.ofChange Rows.ratStaysSpec).preRow enc Tryz.prog Tryz.f10 Rows.ratStaysRow.domain false Rows.ratStaysRow.laid) (((OpenSpec.ofChange Rows.ratStaysSpec).at F).post enc Tryz.prog Tryz.f10 false true false false) := by
 obtain ⟨places, hx⟩ := reads os enc
 refine returnsInHanded_of_row (C := Tryz.checked) (s := OpenSpec.ofChange Rows.ratStaysSpec) own started (by kernel_rfl) Tryz.func10
  (witness_row_at (enc := enc) (C := Tryz.checked) false (laidWorld os) wargs rfl (by kernel_rfl) (by kernel_rfl) (by kernel_rfl)
   (OpenSpec.preRow_of_cond 8 hx (by kernel_rfl) (fun k hk => by cases hk) (by kernel_rfl) (laid_met os))) ?_
 intro W base args ds gs before hval hW _ _ hsz hL _ _
 exact contract H enc W base args ds gs before hval hW hL hsz
theorem said : Rows.RatStaysSaid :=
 OpenClaim.holds_of_cond 10 Tryz.f10 rfl rfl rfl rfl rfl rfl rfl ⟨rfl, rfl, rfl, rfl, rfl⟩ rfl rfl rfl rfl rfl (by kernel_rfl) Tryz.func10 (by kernel_rfl)
  (of_decide_eq_true (by kernel_rfl)) (by unfold Func.isWrapper; first | (rw [if_pos (by decide +kernel)]; kernel_rfl) | (rw [if_neg (by decide +kernel)]; exact ⟨rfl, rfl⟩))
  (fun os started H enc _ F => by rw [OpenClaim.pre_eq_preRow]; exact lifted os started H enc F)
theorem plain (f : FuncId) (fn : Func) (hf : Tryz.pinned.checked.prog.funcNamed "quadratrix/quadratrixlaw02.RatStays" = some f) (hfn : Tryz.pinned.checked.prog.funcs[f]? = some fn) :
  true = Tryz.pinned.checked.prog.looks [] ∧ ∀ (j : Nat) t, fn.params[j]? = some t → Tryz.pinned.checked.prog.wantsStandIn t = false := by
 obtain rfl : f = 10 := Option.some.inj ((show Tryz.prog.funcNamed "quadratrix/quadratrixlaw02.RatStays" = some 10 by kernel_rfl).symm.trans hf) |>.symm
 obtain rfl : fn = Tryz.f10 := (Option.some.inj (Tryz.func10.symm.trans hfn)).symm
 refine ⟨by kernel_rfl, fun j t ht => ?_⟩
 rw [Tryz.params10] at ht
 have ht' : t = 35 ∨ t = 53 ∨ t = 3 := by
  have := Array.mem_of_getElem? ht
  simp at this
  first | omega | exact this | exact this.symm
 rcases ht' with rfl | rfl | rfl
 ·exact (show Tryz.prog.wantsStandIn 35 = false by kernel_rfl)
 ·exact (show Tryz.prog.wantsStandIn 53 = false by kernel_rfl)
 ·exact (show Tryz.prog.wantsStandIn 3 = false by kernel_rfl)
theorem card : Rows.RatStaysCardSaid :=
 Claim7.holds_tied_plain_at .later [] _ _ _ _ said (fun _ h => by cases h) (by kernel_rfl) (fun _ h => by cases h) ratStays_row_tie rfl ⟨rfl, rfl⟩ (by kernel_rfl) rfl plain (by kernel_rfl)
end Go.Proofs.YtgljdfblgpdaaaaGreatDoor.ratStays
