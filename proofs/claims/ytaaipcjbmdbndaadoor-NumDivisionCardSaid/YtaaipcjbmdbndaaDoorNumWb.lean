/- wordBlocks: the blocks of a number come, the lowest one first. -/
import Derived.Test.YtaaipcjbmdbndaaDoorNumTb
import Derived.Test.YtaaipcjbmdbndaaDoorNumDiv
namespace Go.Proofs.YtaaipcjbmdbndaaDoor
open Go.RowKit Go.Shelf
attribute [local go_sem] Oper.semAt_some

/-- The table of the powers of ten. -/
def Tens (W : World) : Prop := ∀ i, i ≤ 9 → W.cell? ⟨0, i, none⟩ = some (.int .u32 ((10 ^ i : Nat) : Int))
theorem Tens.lt {W : World} (h : Tens W) : 0 < W.heap.size := World.block_lt_of_cell? W _ (h 0 (by omega))
theorem Tens.of_block {W W' : World} (h : Tens W) (hb : W'.heap[0]? = W.heap[0]?) : Tens W' := fun i hi => (World.cell?_of_block hb).trans (h i hi)
theorem Tens.below {W W' : World} (h : Tens W) (hb : Below W.heap.size W W') : Tens W' := h.of_block (hb.block _ h.lt)

/-- What the body of a round keeps: the blocks from D on, and the table. -/
def KpW (D : Nat) (A C : World) : Prop := A.heap.size ≤ C.heap.size ∧ ∀ i, (D ≤ i ∨ i = 0) → i < A.heap.size → C.heap[i]? = A.heap[i]?

noncomputable def numLeft (v : Value) (W : World) : Nat := by
  classical
  exact match v with
  | .slice A n _ => if h : ∃ l : List Nat, l.length = n ∧ WS W A l then val (Classical.choose h) else 0
  | _ => 0
theorem ws_inj {W : World} {A : Option Addr} {l k : List Nat} (h : l.length = k.length) (hl : WS W A l) (hk : WS W A k) : l = k := by
  refine List.ext_getElem h fun j h1 h2 => ?_
  obtain ⟨b, o, rfl, _, hc⟩ := hl.at_ (by omega)
  obtain ⟨b', o', e, _, hc'⟩ := hk.at_ (by omega)
  injection e with e
  injection e with e1 e2
  subst e1 e2
  have e3 := (hc j h1).symm.trans (hc' j h2)
  injection e3 with e3
  injection e3 with _ e3
  rw [gd_at h1, gd_at h2] at e3
  omega
theorem numLeft_of {W : World} {A : Option Addr} {n c : Nat} {l : List Nat} (h : l.length = n) (hl : WS W A l) : numLeft (.slice A n c) W = val l := by
  have hex : ∃ l : List Nat, l.length = n ∧ WS W A l := ⟨l, h, hl⟩
  unfold numLeft
  simp only [dif_pos hex]
  have := Classical.choose_spec hex
  rw [ws_inj (this.1.trans h.symm) this.2 hl]

/-- A box of a slice of words. -/
theorem blkNat (w : World) : w.heap.size ≤ w.heap.size := Nat.le_refl _

set_option maxRecDepth 100000 in
set_option maxHeartbeats 1000000 in
theorem wb_gives (n : Nat) (hn : 1 ≤ n) (B : Nat) (A : Option Addr) (c : Nat) (l : List Nat) (hlen : l.length ≤ 1000000) (hT : Top l) (W : World) (hB : W.cell? ⟨B, 0, none⟩ = some (.slice A l.length c)) (hl : WS W A l) (ht : Tens W) :
    GivesAll Fence.wide n Tryd.prog 67 #[.pointer (some ⟨B, 0, none⟩)] (fun x : Nat => #[.int .u32 (x : Int)]) (Below W.heap.size) (KpW W.heap.size) (wblks (val l) (val l)) W := fun L J hJ hY h0 => by
  refine callsIn_of_wp Tryd.func67 rfl trivial ?_ rfl
  simp only [Tryd.ntmps67, List.size_toArray, List.length_cons, List.length_nil, Nat.reduceAdd, Nat.reduceSub, Array.replicate_succ, Array.replicate_zero, List.push_toArray, List.append_toArray, List.nil_append, List.cons_append]
  have HY := Lib.hid hY
  have HJ := Lib.hid hJ
  have HT := Lib.hid hT
  have HTn := Lib.hid ht
  clear hY hJ hT ht
  gi_wp2
  refine ⟨trivial, ?_⟩
  refine (callsIn_wide.2 (own_any W W A l.length c l rfl (by omega) hl (b0 _))).mono ?_
  rintro e W1 ⟨g, rfl, hg, hb, hbw⟩
  gi_wp2
  gi_loopw [3] (fun rv wr => ∃ (pre : List Nat) (f : Nat) (k : Nat) (R : List Nat), Hid (wblks (val l) (val l) = pre ++ wblks f (val (R.take k))) ∧ rv = .slice (some ⟨g, 0, none⟩) k l.length ∧ k ≤ R.length ∧ R.length = l.length ∧ Hid (Top (R.take k)) ∧ val (R.take k) ≤ f ∧ Blk wr g R ∧ W.heap.size ≤ g ∧ Hid (Tens wr) ∧ W.heap.size ≤ wr.heap.size ∧ J pre wr) (fun rv wr => numLeft rv wr)
  case atStart => 
    have e : l.take l.length = l := List.take_length
    exact ⟨[], val l, l.length, l, Lib.hid (by rw [e]; rfl), rfl, Nat.le_refl _, rfl, Lib.hid (by rw [e]; exact HT.out), by rw [e]; exact Nat.le_refl _, hb, hg, Lib.hid (HTn.out.below hbw), hbw.size, HJ.out _ _ _ h0 hbw⟩
  case round =>
    obtain ⟨pre, f, k, R, hx, rfl, hk, hR, hTk, hf, hb', hg', htn, hsz, hj⟩ := hrel
    by_cases h0 : 0 < k
    · have h0i : (0 : Int) < (k : Int) := by omega
      have htc := htn.out 9 (by omega)
      rw [show ((10 ^ 9 : Nat) : Int) = 1000000000 from rfl] at htc
      have hN0 : 0 < val (R.take k) := val_pos hTk.out (by simp; omega)
      obtain ⟨f', rfl⟩ : ∃ f', f = f' + 1 := ⟨f - 1, by omega⟩
      obtain ⟨x, hxx⟩ : ∃ x, x = val (R.take k) % 1000000000 := ⟨_, rfl⟩
      have hxl : x < 1000000000 := by rw [hxx]; exact Nat.mod_lt _ (by decide)
      have hbl : wblks (val l) (val l) = pre ++ x :: wblks f' (val (R.take k) / 1000000000) := by
        have := hx.out
        rw [wblks, if_neg (by omega), ← hxx] at this
        exact this
      have HB := Lib.hid hbl
      have hsh := shorten_any g k l.length R 1000000000 wr hk (by omega) (by decide) (by decide) hb'
      rw [← hxx] at hsh
      clear hxx
      gi_wp2
      refine ⟨trivial, ?_⟩
      refine (callsIn_wide.2 hsh).mono ?_
      rintro e W2 ⟨S, rfl, hS, hSv, hbS, hO⟩
      have HSl := Lib.hid hS
      have HSv := Lib.hid hSv
      clear hS hSv
      have hws : WS W2 (some ⟨g, 0, none⟩) S := by
        have h := hbS.ws (o := 0) (n := k) (by rw [List.length_append, HSl.out]; omega)
        rw [List.drop_zero, ← HSl.out, List.take_left' rfl] at h
        exact h
      gi_wp2
      refine ⟨trivial, ?_⟩
      refine (callsIn_wide.2 (trim_any (some ⟨g, 0, none⟩) k l.length S W2 HSl.out (by omega) (by omega) hws)).mono ?_
      rintro e W3 ⟨⟨k', hk', rfl, hTop', hz'⟩, rfl⟩
      have hBO : Below W.heap.size wr W2 := ⟨hO.os, hO.tape, hO.output, hO.size, fun i hi => hO.block i (by omega) (fun e => by injection e; omega)⟩
      have hgt := HTn.out.lt
      have htn2 : Tens W2 := htn.out.of_block (hO.block _ htn.out.lt (fun e => by injection e; omega))
      obtain ⟨fn, tmps, assign, body, hy, hR'⟩ := HY.out pre x _ HB.out W2 (HJ.out _ _ _ hj hBO)
      have HTP := Lib.hid hTop'
      have HZ := Lib.hid hz'
      have HTN2 := Lib.hid htn2
      clear hTop' hz' htn2 htc hbl
      gi_wp2
      refine hR'.mono ?_
      rintro e W4 ⟨rfl, hJ', hkp⟩
      gi_wp2
      have hb4 : Blk W4 g (S ++ R.drop k) := ⟨hbS.1, (hkp.2 g (.inl hg') hbS.lt).trans hbS.2⟩
      have htk : (S ++ R.drop k).take k' = S.take k' := List.take_append_of_le_length (by rw [HSl.out]; exact hk')
      have hvk : val (S.take k') = val S := val_take_top S k' HZ.out
      have hws4 : WS W4 (some ⟨g, 0, none⟩) (S.take k') := by
        have h := hb4.ws (o := 0) (n := k') (by rw [List.length_append, HSl.out]; omega)
        rw [List.drop_zero, htk] at h
        exact h
      have hwsr : WS wr (some ⟨g, 0, none⟩) (R.take k) := by
        have h := hb'.ws (o := 0) (n := k) (by omega)
        rw [List.drop_zero] at h
        exact h
      go_roundw
      case rel =>
        refine ⟨pre ++ [x], f', k', S ++ R.drop k, Lib.hid ?_, rfl, ?_, ?_, Lib.hid ?_, ?_, hb4, hg', Lib.hid ?_, Nat.le_trans hsz (Nat.le_trans hO.size hkp.1), hJ'⟩
        · rw [htk, hvk, HSv.out, HB.out]; simp
        · rw [List.length_append, HSl.out]; omega
        · rw [List.length_append, HSl.out, List.length_drop]; omega
        · rw [htk]
          intro h1
          rw [List.length_take, HSl.out, Nat.min_eq_left hk'] at h1 ⊢
          rw [gd_take (by omega)]
          exact HTP.out h1
        · rw [htk, hvk, HSv.out]; omega
        · exact HTN2.out.of_block (hkp.2 _ (.inr rfl) HTN2.out.lt)
      case measure =>
        rw [numLeft_of (by rw [List.length_take, HSl.out]; omega) hws4, numLeft_of (by rw [List.length_take]; omega) hwsr, hvk, HSv.out]
        omega
    · have h0i : ¬ (0 : Int) < (k : Int) := by omega
      gi_wp2
      go_end0
      refine ⟨⟨_, rfl⟩, ?_⟩
      have : R.take k = [] := by rw [show k = 0 by omega]; rfl
      rw [hx.out, this, show val [] = 0 from rfl, wblks_zero, List.append_nil]
      exact hj
end Go.Proofs.YtaaipcjbmdbndaaDoor
