/- extend of nothing. -/
import Derived.Test.YtjijifdnhbkjaaaGreatDoorNumRef
namespace Go.Proofs.YtjijifdnhbkjaaaGreatDoor
open Go.RowKit

set_option maxRecDepth 100000 in
set_option maxHeartbeats 400000 in
theorem extend_nil (w : World) (d c : Nat) (hd : d < 4294967296) (hc0 : 0 < c) (hc : c < 4294967296) :
    Calls Tryz.prog 75 #[.slice none 0 0, .int .u32 (d : Int), .int .u32 (c : Int)] w fun e w' => ∃ A cp, e = .returned (.slice A 1 cp) ∧ 1 ≤ cp ∧ WS w' A [c] ∧ Below w.heap.size w w' := by
  obtain ⟨i0, hi0, hz0, hz1, hz2⟩ := info_v
  have hne : ((c : Int) != 0) = true := by simp; omega
  go_enter Tryz.func75, Tryz.ntmps75
  go_wp2_with fail
  go_loopw [7, 15] (fun cv iv wr => cv = .int .u64 (c : Int) ∧ iv = .int .i64 0 ∧ wr = w) (fun _ _ _ => 0)
  case atStart => exact ⟨rfl, rfl, rfl⟩
  case round =>
    obtain ⟨rfl, rfl, hwr⟩ := hrel
    rw [hwr]
    have hone : Blk (w.alloc (.cells #[.int .u32 (c : Int)] 52)) w.heap.size [c] := Blk.new w [c] (by simpa using hc)
    have hws := hone.ws (o := 0) (n := 1) (by simp)
    rw [List.drop_zero, show List.take 1 [c] = [c] from rfl] at hws
    go_wp2_with (at_builtin; refine wpList_append_lies _ rfl (.tmp 37) (.tmp 40) _ rfl w.heap.size 52 i0 _ 1 4 Tryz.underlying22 hi0 hz0 hz1 hz2 rfl (by omega) (.slice none 0 0) 0 [] rfl ⟨rfl, .inl ⟨rfl, rfl⟩⟩ ⟨w.heap.size, 0, none⟩ 1 1 (([c] : List Nat).map fun (x : Nat) => Value.int .u32 (x : Int)) rfl (by simp) (news_ws (k := 1) (l := [c]) (by simp) hws) one_words (by omega) (by simp only [maxLen]; omega) (by omega) (by simp) _ rfl ?_; intro g cap w3 hown hgrow hat hlt3)
    have hown' : w3.ownsRow w.heap.size 52 1 (.slice (some ⟨g, 0, none⟩) 1 cap) 1 (([c] : List Nat).map fun (x : Nat) => Value.int .u32 (x : Int)) := hown
    obtain ⟨hcap, hws3⟩ := ws_of_row (l := [c]) (n := 1) (by simpa using hc) rfl hown' (by omega) hlt3
    go_ret
    exact ⟨some ⟨g, 0, none⟩, cap, rfl, hcap, hws3, (ba (b0 w) _).grown hgrow (by simp) (by simp [Value.ownBlock])⟩
end Go.Proofs.YtjijifdnhbkjaaaGreatDoor
