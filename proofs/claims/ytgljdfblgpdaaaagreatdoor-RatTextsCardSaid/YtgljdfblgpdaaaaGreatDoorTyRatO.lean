import Derived.Test.YtgljdfblgpdaaaaGreatDoorTyRefR
import Derived.Test.YtgljdfblgpdaaaaGreatDoorTyRatN
set_option linter.unusedSimpArgs false
set_option linter.unusedVariables false
set_option maxRecDepth 100000
set_option maxHeartbeats 4000000
namespace Go.Proofs.YtgljdfblgpdaaaaGreatDoor
open Go.RowKit Go.Shelf
set_option maxRecDepth 100000 in
theorem LCut_no (w : World) (s : ByteArray) (c : UInt8) (hk : Lib.indexByte s.data.toList c = -1) :
    Calls Tryz.prog 184 #[.string s, .string ⟨#[c]⟩] w fun e w' => e = .returned (.tuple #[.string s, .string ⟨#[]⟩, .bool false]) ∧ Below w.heap.size w w' := by
  go_enter Tryz.func184, Tryz.ntmps184
  go_wp2_with fail
  refine (Tryz.stringslite_Index_one s c _).mono ?_
  rintro e w1 ⟨rfl, rfl⟩
  rw [hk]
  go_wp2_with fail
  refine bodyPost_ret (v := .tuple #[.string s, .string ⟨#[]⟩, .bool false]) (by simp [results, Tryz.results184, go_sem]) rfl ?_
  exact ⟨rfl, b0 _⟩
set_option maxRecDepth 100000 in
theorem SCut_no (w : World) (s : ByteArray) (c : UInt8) (hk : Lib.indexByte s.data.toList c = -1) :
    Calls Tryz.prog 159 #[.string s, .string ⟨#[c]⟩] w fun e w' => e = .returned (.tuple #[.string s, .string ⟨#[]⟩, .bool false]) ∧ Below w.heap.size w w' := by
  go_enter Tryz.func159, Tryz.ntmps159
  go_wp2_with fail
  refine (LCut_no _ s c hk).mono ?_
  rintro e w1 ⟨rfl, hb⟩
  go_wp2_with fail
  refine bodyPost_ret (v := .tuple #[.string s, .string ⟨#[]⟩, .bool false]) (by simp [results, Tryz.results159, go_sem]) rfl ?_
  exact ⟨rfl, hb⟩
end Go.Proofs.YtgljdfblgpdaaaaGreatDoor
