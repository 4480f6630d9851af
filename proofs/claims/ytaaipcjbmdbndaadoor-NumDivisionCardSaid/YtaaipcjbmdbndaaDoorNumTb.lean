/- textBlocks: the blocks of a text of digits come, the highest one first. -/
import Derived.Test.YtaaipcjbmdbndaaDoorNumRange
import Derived.Test.YtaaipcjbmdbndaaDoorNumTxM
import Derived.Outline
namespace Go.Proofs.YtaaipcjbmdbndaaDoor
open Go.RowKit Go.Shelf
attribute [local go_sem] Oper.semAt_some

/-- A box of a text. -/
def SBox (W : World) (p : Nat) (v : Value) : Prop := W.heap[p]? = some (.cells #[v] 9 (0, 0))
theorem SBox.cell {W : World} {p : Nat} {v : Value} (h : SBox W p v) : W.cell? ⟨p, 0, none⟩ = some v := by rw [cell_of_row W p 0 _ _ (0, 0) h]; rfl
theorem SBox.free {W : World} {p : Nat} {v : Value} (h : SBox W p v) (i : Nat) : W.frozen? ⟨p, i, none⟩ = false := by
  unfold SBox at h; simp [World.frozen?, h]
theorem SBox.set_ {W : World} {p : Nat} {v : Value} (h : SBox W p v) (x : Value) : SBox (W.setCell ⟨p, 0, none⟩ x) p x := by
  unfold SBox at h ⊢
  simp [World.setCell, Array.getElem?_modify, h]
theorem SBox.lt {W : World} {p : Nat} {v : Value} (h : SBox W p v) : p < W.heap.size := by
  rcases Nat.lt_or_ge p W.heap.size with hlt | hge
  · exact hlt
  · unfold SBox at h; rw [Array.getElem?_eq_none hge] at h; cases h
theorem SBox.below {W W' : World} {p : Nat} {v : Value} (h : SBox W p v) (hb : Below W.heap.size W W') : SBox W' p v := (hb.block p h.lt).trans h
theorem SBox.new (W : World) (v : Value) : SBox (W.alloc (.cells #[v] 9)) W.heap.size v := heap_alloc_new W _
/-- How much of the text is left, read off the world. -/
def strLeft (B : Nat) (W : World) : Nat := match W.cell? ⟨B, 0, none⟩ with | some (.string t) => t.size | _ => 0
theorem SBox.left {W : World} {p : Nat} {t : ByteArray} (h : SBox W p (.string t)) : strLeft p W = t.size := by unfold strLeft; rw [h.cell]

def KpB (B : Nat) (A C : World) : Prop := C.heap[B]? = A.heap[B]?

theorem ext_list (t : ByteArray) (a : Nat) : (t.extract a t.size).data.toList = t.data.toList.drop a := by
  rw [ByteArray.data_extract, Array.toList_extract]
  rw [List.extract_eq_take_drop]
  exact List.take_of_length_le (by rw [List.length_drop]; exact Nat.le_refl _)
theorem ba_at (t : ByteArray) {i : Nat} (h : i < t.size) (h' : i < t.data.toList.length) : t.data.toList[i]'h' = t[i]'h := rfl
theorem ba_take (t : ByteArray) {i : Nat} (h : i < t.size) : t.data.toList.take (i + 1) = t.data.toList.take i ++ [t[i]'h] := by
  have h' : i < t.data.toList.length := h
  rw [List.take_succ_eq_append_getElem h', ba_at t h h']
theorem ba_mem (t : ByteArray) {i : Nat} (h : i < t.size) : t[i]'h ∈ t.data.toList := by
  have h' : i < t.data.toList.length := h
  rw [← ba_at t h h']; exact List.getElem_mem _

set_option maxRecDepth 100000 in
set_option maxHeartbeats 1000000 in
theorem tb_gives (n : Nat) (hn : 1 ≤ n) (B : Nat) (s : ByteArray) (hs : s.size ≤ 1000000) (hd : ∀ c ∈ s.data.toList, isDg c) (W : World) (hB : SBox W B (.string s)) :
    GivesAll Fence.wide n Tryd.prog 65 #[.pointer (some ⟨B, 0, none⟩)] (fun x : Nat × Nat => #[.int .u32 (x.1 : Int), .int .i64 (x.2 : Int)]) (Only B) (KpB B) (blks s.size s.data.toList) W := fun l J hJ hY h0 => by
  refine callsIn_of_wp Tryd.func65 rfl trivial ?_ rfl
  simp only [Tryd.ntmps65, List.size_toArray, List.length_cons, List.length_nil, Nat.reduceAdd, Nat.reduceSub, Array.replicate_succ, Array.replicate_zero, List.push_toArray, List.append_toArray, List.nil_append, List.cons_append]
  have HY := Lib.hid hY
  have HJ := Lib.hid hJ
  have HD := Lib.hid hd
  clear hY hJ hd
  gi_wp2
  gi_loopw [3] (fun _ wr => ∃ (pre : List (Nat × Nat)) (f : Nat) (t : ByteArray), Hid (blks s.size s.data.toList = pre ++ blks f t.data.toList) ∧ t.size ≤ f ∧ t.size ≤ s.size ∧ Hid (∀ c ∈ t.data.toList, isDg c) ∧ SBox wr B (.string t) ∧ J pre wr) (fun _ wr => strLeft B wr)
  case atStart => exact ⟨[], s.size, s, Lib.hid rfl, Nat.le_refl _, Nat.le_refl _, HD, hB, h0⟩
  case round =>
    obtain ⟨pre, f, t, hx, hf, hts, hdt, hb, hj⟩ := hrel
    have hc := hb.cell
    by_cases h0 : 0 < t.size
    · have h0i : (0 : Int) < (t.size : Int) := by omega
      obtain ⟨k, hk⟩ : ∃ k, k = min 9 t.size := ⟨_, rfl⟩
      have hmin : min (9 : Int) (t.size : Int) = (k : Int) := by omega
      have hk9 : k ≤ 9 := by omega
      have hkt : k ≤ t.size := by omega
      have hk0 : 0 < k := by omega
      have HK := Lib.hid hk
      clear hk
      obtain ⟨wo, rfl⟩ : ∃ wo : World, wo = wr := ⟨_, rfl⟩
      gi_wp2
      gi_loopw [4, 13] (fun bv iv wi => ∃ (i v : Nat), i ≤ k ∧ iv = .int .i64 (i : Int) ∧ bv = .int .u32 (v : Int) ∧ v < 10 ^ i ∧ Hid (v = dnum (t.data.toList.take i)) ∧ wi = wo) (fun _ iv _ => k - (intOf iv).toNat)
      case atStart => exact ⟨0, 0, Nat.zero_le _, rfl, rfl, by decide, Lib.hid rfl, rfl⟩
      case round =>
        obtain ⟨i, v, hi, rfl, rfl, hvl, hv, hwi⟩ := hrel
        rw [hwi]
        clear hwi
        by_cases hlt : i < k
        · have hlti : (i : Int) < (k : Int) := by omega
          have hit : i < t.size := by omega
          have hdg := hdt.out _ (ba_mem t hit)
          unfold isDg at hdg
          have hst := ba_take t hit
          have HS : Hid (dnum (t.data.toList.take (i + 1)) = 10 * dnum (t.data.toList.take i) + dg t[i]) := by rw [hst]; exact dnum_snoc _ _
          clear hst
          have hp : 10 ^ i ≤ 100000000 := Nat.le_trans (Nat.pow_le_pow_right (by decide) (show i ≤ 8 by omega)) (by decide)
          have hpl : v < 100000000 := by omega
          have hvn : v + 1 ≤ 10 ^ i := hvl
          have HP := Lib.hid hvn
          clear hp hvl hvn
          gi_wp2
          go_roundw
          case rel =>
            refine ⟨i + 1, 10 * v + (t[i].toNat - 48), by omega, by go_num, by go_num, ?_, ?_, trivial⟩
            · rw [Nat.pow_succ]; have := HP.out; omega
            · have h1 := HS.out
              have h2 := hv.out
              exact Lib.hid (by rw [h1, ← h2]; rfl)
          case measure => simp [intOf]; omega
        · have hnlt : ¬ (i : Int) < (k : Int) := by omega
          obtain rfl : k = i := by omega
          clear hi
          obtain ⟨f', rfl⟩ : ∃ f', f = f' + 1 := ⟨f - 1, by omega⟩
          have hlen : t.data.toList.length = t.size := rfl
          have hne : t.data.toList ≠ [] := fun e => by rw [e, List.length_nil] at hlen; omega
          have hbl : blks s.size s.data.toList = pre ++ (v, k) :: blks f' (t.data.toList.drop 9) := by
            have e1 : min 9 t.data.toList.length = k := HK.out.symm
            have e2 : t.data.toList.take 9 = t.data.toList.take k := by
              rw [← e1]; exact List.take_eq_take_min ..
            have := hx.out
            rw [blks, if_neg hne, e2, e1, ← hv.out] at this
            exact this
          have HB := Lib.hid hbl
          have hfr := hb.free 0
          have hO : Only B wo (wo.setCell ⟨B, 0, none⟩ (.string (t.extract k t.size))) := (only_refl B wo).set_ (.inl rfl) _
          obtain ⟨fn, tmps, assign, body, hy, hR⟩ := HY.out pre (v, k) _ hbl _ (HJ.out _ _ _ hj hO)
          dsimp only at hy
          have hb2 := hb.set_ (.string (t.extract k t.size))
          clear hbl hne hlen
          gi_wp2
          refine hR.mono ?_
          rintro e W' ⟨rfl, hJ', hkp⟩
          gi_wp2
          have hb3 : SBox W' B (.string (t.extract k t.size)) := Eq.trans hkp hb2
          have hl9 : (t.extract k t.size).data.toList = t.data.toList.drop 9 := by
            rw [ext_list, HK.out]
            rcases Nat.lt_or_ge t.size 9 with h | h
            · rw [Nat.min_eq_right (by omega), List.drop_eq_nil_of_le (by simp), List.drop_eq_nil_of_le (by simp; omega)]
            · rw [Nat.min_eq_left h]
          have hsz : (t.extract k t.size).size = t.size - k := by simp
          go_roundw
          case rel =>
            refine ⟨pre ++ [(v, k)], f', t.extract k t.size, Lib.hid ?_, by omega, by omega, Lib.hid ?_, hb3, hJ'⟩
            · rw [hl9, HB.out]; simp
            · rw [hl9]; exact fun c hc => hdt.out c (List.mem_of_mem_drop hc)
          case measure => rw [hb3.left, hb.left]; omega
    · have h0i : ¬ (0 : Int) < (t.size : Int) := by omega
      gi_wp2
      go_end0
      refine ⟨⟨_, rfl⟩, ?_⟩
      have : t.data.toList = [] := List.eq_nil_of_length_eq_zero (by show t.size = 0; omega)
      have e : blks f t.data.toList = [] := by rw [this]; cases f <;> simp [blks]
      rw [hx.out, e, List.append_nil]
      exact hj
end Go.Proofs.YtaaipcjbmdbndaaDoor
