/- Making slices of words. -/
import Derived.Test.YtaaipcjbmdbndaaDoorNumBase
import Derived.Test.YtaaipcjbmdbndaaDoorRows
namespace Go.Proofs.YtaaipcjbmdbndaaDoor
open Go.RowKit

theorem info_w : (Tryd.prog.info? 58).map (fun i => (i.zero, i.size, i.bytes)) = some (some (.int .u32 0), 1, 4) := by kernel_rfl
def zer (n : Nat) : List Nat := List.replicate n 0
theorem zer_length (n : Nat) : (zer n).length = n := by simp [zer]
theorem zer_lt (n : Nat) : ∀ x ∈ zer n, x < 4294967296 := by
  intro x hx
  simp only [zer, List.mem_replicate] at hx
  omega
theorem gd_zer (n j : Nat) : gd (zer n) j = 0 := by
  unfold gd zer
  rw [List.getD_eq_getElem?_getD, List.getElem?_replicate]
  split <;> rfl
theorem val_zer (n : Nat) : val (zer n) = 0 := by
  induction n with
  | zero => rfl
  | succ n ih =>
    unfold zer at ih ⊢
    simp only [List.replicate_succ, val, ih]
theorem run_mk (N : Int) (n : Nat) (hN : N = n) (hn : n ≤ 4000000) (w : World) :
    (Instr.makeSlice 22 (.int .i64 N) (.int .i64 N)).run Tryd.prog w = .ok (.slice (some ⟨w.heap.size, 0, none⟩) n n) (w.alloc (.cells (words (zer n)) 58)) := by
  subst hN
  obtain ⟨i, hi, hz, hs, hb⟩ := info_parts info_w
  have h := run_make (P := Tryd.prog) w 22 58 i (.int .u32 0) Tryd.underlying22 hi hz .i64 .i64 n n (by omega) (by omega) (by rw [hb]; omega) (by omega)
  rw [Int.toNat_natCast, hs, Nat.mul_one] at h
  rw [h]
  have e : madeCells (Value.int .u32 0).cells n = words (zer n) := by
    apply Array.ext
    · simp [words, zer_length, size_madeCells]
    · intro j h1 h2
      simp [madeCells, words, zer, Value.cells, Nat.mod_one]
  rw [e]
theorem Blk.new (w : World) (L : List Nat) (h : ∀ x ∈ L, x < 4294967296) : Blk (w.alloc (.cells (words L) 58)) w.heap.size L := ⟨h, heap_alloc_new w _⟩
theorem Blk.alloc {w : World} {g : Nat} {L : List Nat} (h : Blk w g L) (o : Obj) : Blk (w.alloc o) g L := h.below (ba (b0 _) _)

theorem row_step {vS K r t x y z vs vl : Nat} (hv : vS + K * r = vs + y * vl) (ht : t = x * y + z + r) :
    vS + K * (t % 4294967296) + K * 4294967296 * (t / 4294967296) = vs + K * z + y * (vl + K * x) := by
  have h1 : K * (t % 4294967296) + K * 4294967296 * (t / 4294967296) = K * t := by
    rw [Nat.mul_assoc, ← Nat.mul_add, Nat.mod_add_div]
  rw [Nat.add_assoc, h1, ht]
  have h2 : K * (x * y + z + r) = K * (x * y) + K * z + K * r := by rw [Nat.mul_add, Nat.mul_add]
  have h3 : y * (vl + K * x) = y * vl + K * (x * y) := by rw [Nat.mul_add, Nat.mul_comm x y, Nat.mul_left_comm]
  omega

set_option maxHeartbeats 400000 in
theorem addRow_any (g o m d : Nat) (L : List Nat) (A : Option Addr) (n c : Nat) (l : List Nat) (y : Nat) (w : World) (hn : l.length = n) (hm : n ≤ m) (hm2 : m ≤ 4000000) (hL : o + m ≤ L.length) (hy : y < 4294967296)
    (hg : Blk w g L) (hl : WS w A l) (ho : Off A l g) :
    Calls Tryd.prog 87 #[.slice (some ⟨g, o, none⟩) m d, .slice A n c, .int .u32 (y : Int)] w fun e w' =>
      ∃ (S : List Nat) (r : Nat), e = .returned (.int .u32 (r : Int)) ∧ r < 4294967296 ∧ S.length = n ∧ (∀ x ∈ S, x < 4294967296) ∧ val S + BB n * r = val (seg L o n) + y * val l ∧ Blk w' g (spl L o S) ∧ Only g w w' := by
  subst hn
  go_enter Tryd.func87, Tryd.ntmps87
  go_wp2
  go_loopw [7, 13] (fun cv iv wr => ∃ (k : Nat) (S : List Nat) (r : Nat), k ≤ l.length ∧ iv = .int .i64 k ∧ cv = .int .u64 (r : Int) ∧ r < 4294967296 ∧ S.length = k ∧ (∀ x ∈ S, x < 4294967296) ∧ val S + BB k * r = val (seg L o k) + y * val (l.take k) ∧ Blk wr g (spl L o S) ∧ Only g w wr) (fun _ iv _ => l.length - (intOf iv).toNat)
  case atStart => exact ⟨0, [], 0, Nat.zero_le _, rfl, rfl, by omega, rfl, by simp, by simp [seg_zero, val], by rw [spl_nil]; exact hg, only_refl _ _⟩
  case round =>
    obtain ⟨k, S, r, hk, rfl, rfl, hr, hS, hSw, hv, hb, hO⟩ := hrel
    by_cases hlt : k < l.length
    · obtain ⟨b, off, rfl, hblt, hc⟩ := (hl.only hO ho).at_ (by omega)
      have hc1 := hc k hlt
      have hc2 := hb.cell (i := o + k) (by rw [spl_length (by omega)]; omega)
      have hf2 := hb.free (o + k)
      rw [spl_get (by omega) (by omega)] at hc2
      have hx := hl.lt k
      have hz := getD_lt hg.1 (o + k)
      have H1 := Lib.hid (val_take l hlt)
      have H2 := Lib.hid (val_seg_succ L o (k := k) (by omega))
      clear hc
      generalize gd l k = x at *
      generalize gd L (o + k) = z at *
      have hxy := Nat.mul_le_mul (Nat.le_of_lt_succ hx) (Nat.le_of_lt_succ hy)
      obtain ⟨p, hp⟩ : ∃ p, p = x * y := ⟨_, rfl⟩
      have hpi : (x : Int) * (y : Int) = (p : Int) := by rw [hp]; simp
      have hpl : p ≤ 18446744065119617025 := by omega
      have HP := Lib.hid hp
      have HS := Lib.hid hS
      have HV := Lib.hid hv
      clear hp hxy hv hS
      go_wp2
      go_roundw
      case rel =>
        have et : (p + z + r) % 4294967296 < 4294967296 := Nat.mod_lt _ (by decide)
        refine ⟨k + 1, S ++ [(p + z + r) % 4294967296], (p + z + r) / 4294967296, by omega, by go_num, by go_num, by omega, by simp [HS.out], words_snoc hSw et, ?_, ?_, hO.set_ (.inl rfl) _⟩
        · rw [val_snoc, HS.out, H2.out, H1.out, BB_succ]
          exact row_step HV.out (by rw [HP.out])
        · have h := hb.set_ (i := o + k) et
          rw [← HS.out] at h ⊢
          rw [spl_set _ (by rw [HS.out]; omega)] at h
          exact h
      case measure => simp [intOf]; omega
    · have he : k = l.length := by omega
      subst he
      go_wp2
      go_ret
      rw [List.take_length] at hv
      exact ⟨S, r, ret_int (by omega), hr, hS, hSw, hv, hb, hO⟩
end Go.Proofs.YtaaipcjbmdbndaaDoor
