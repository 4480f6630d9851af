/- The specification's byWord and divWords. -/
import Derived.Test.YtgljdfblgpdaaaaGreatDoorNumWDivA
import Derived.Test.YtgljdfblgpdaaaaGreatDoorNumRefC
import Derived.Test.YtgljdfblgpdaaaaGreatDoorNumRefB
import Derived.Test.YtgljdfblgpdaaaaGreatDoorNumGuess
import Derived.Deep.DeepCutAuto
import Derived.Deep.RegionWith
import Derived.Outline
set_option linter.unusedSimpArgs false
set_option linter.unusedVariables false
namespace Go.Proofs.YtgljdfblgpdaaaaGreatDoor
open Go.RowKit Go.Shelf

/-- Two lists of words that were computed. -/
def WsP2 (a : World) (N M : Nat) (e : Ending) (w' : World) : Prop :=
  ∃ A c l B d k, e = .returned (.tuple #[.slice A l.length c, .slice B k.length d]) ∧ l.length ≤ c ∧ k.length ≤ d ∧ WS w' A l ∧ WS w' B k ∧ Top l ∧ Top k ∧ val l = N ∧ val k = M ∧ Below a.heap.size a w'
theorem seg_front' (l : List Nat) {j : Nat} (h : j < l.length) : seg l j (l.length - j) = gd l j :: seg l (j + 1) (l.length - (j + 1)) := by
  unfold seg
  rw [List.drop_eq_getElem_cons h, show l.length - j = (l.length - (j + 1)) + 1 from by omega, List.take_succ_cons, ← gd_at h]
theorem zer_set' (j : Nat) (Q : Nat) (S : List Nat) : (zer (j + 1) ++ S).set j Q = zer j ++ (Q :: S) := by
  have e : zer (j + 1) = zer j ++ [0] := zer_append j 1
  rw [e, List.append_assoc, List.set_append_right _ _ (by rw [zer_length]; exact Nat.le_refl _), zer_length, Nat.sub_self]
  rfl
theorem top_take {S l' : List Nat} {k : Nat} (hl : l' = S.take k) (hk : k ≤ S.length) (h : 0 < k → gd S (k - 1) ≠ 0) : Top l' := by
  intro h0
  have e : l'.length = k := by rw [hl, List.length_take]; omega
  rw [e, hl, gd_take (by omega)]
  exact h (by omega)

set_option maxRecDepth 100000 in
set_option maxHeartbeats 1000000 in
theorem RbyWord_any (A : Option Addr) (n c : Nat) (l : List Nat) (y : Nat) (w : World) (hn : l.length = n) (hm : n ≤ 1000000) (hy0 : 0 < y) (hy : y < 4294967296) (hA : WS w A l) :
    Calls Tryz.prog 146 #[.slice A n c, .int .u64 (y : Int)] w (WsP2 w (val l / y) (val l % y)) := by
  subst hn
  have hy1 : ((y : Int) == 0) = false := beq_eq_false_iff_ne.2 (by omega)
  have hmk := run_mk (l.length : Int) l.length rfl (by omega) w
  have ho := hA.off (Nat.le_refl _)
  go_enter Tryz.func146, Tryz.ntmps146
  go_wp2_with fail
  go_loopw [6, 7] (fun rv iv wr => ∃ (j : Nat) (S : List Nat) (r : Nat), j ≤ l.length ∧ iv = .int .i64 ((j : Int) - 1) ∧ rv = .int .u64 (r : Int) ∧ r < y ∧ S.length = l.length - j ∧ Hid (val (seg l j (l.length - j)) = val S * y + r) ∧ Blk wr w.heap.size (zer j ++ S) ∧ Only w.heap.size w wr) (fun _ iv _ => (intOf iv + 1).toNat)
  case atStart => exact ⟨l.length, [], 0, Nat.le_refl _, rfl, rfl, hy0, by simp, Lib.hid (by simp [seg_zero, val]), by rw [List.append_nil]; exact Blk.new w _ (zer_lt _), Only.mono (ba (b0 _) _)⟩
  case round =>
    obtain ⟨j, S, r, hj, rfl, rfl, hr, hS, hv, hb, hO⟩ := hrel
    rcases Nat.eq_zero_or_pos j with rfl | hj0
    · have hvS : val l = val S * y + r := by
        have := hv.out
        unfold seg at this
        rwa [List.drop_zero, Nat.sub_zero, List.take_length] at this
      have hq : val S = val l / y := by rw [hvS, Nat.mul_comm, Nat.mul_add_div hy0, Nat.div_eq_of_lt hr, Nat.add_zero]
      have hr2 : r = val l % y := by rw [hvS, Nat.mul_comm, Nat.mul_add_mod, Nat.mod_eq_of_lt hr]
      rw [show zer 0 = [] from rfl, List.nil_append] at hb
      have hSl : S.length = l.length := by omega
      have hwsS := hb.ws (o := 0) (n := l.length) (by omega)
      rw [List.drop_zero, ← hSl, List.take_length] at hwsS
      have hTR := Rtrim_any (some ⟨w.heap.size, 0, none⟩) S.length l.length S wr rfl (by omega) (by omega) hwsS
      rw [hSl] at hTR
      have hrl : r < 4294967296 := by omega
      have hone : Blk (wr.alloc (.cells #[.int .u32 (r : Int)] 83)) wr.heap.size [r] := Blk.new wr [r] (by simpa using hrl)
      have hw1 := hone.ws (o := 0) (n := 1) (by simp)
      rw [List.drop_zero, show List.take 1 [r] = [r] from rfl] at hw1
      have hT1 := Rtrim_any (some ⟨wr.heap.size, 0, none⟩) 1 1 [r] _ rfl (by decide) (Nat.le_refl _) hw1
      have HTR := Lib.hid hTR
      have HT1 := Lib.hid hT1
      have HQ := Lib.hid hq
      have HR := Lib.hid hr2
      have HW1 := Lib.hid hw1
      have HWS := Lib.hid hwsS
      have HSL := Lib.hid hSl
      clear hTR hT1 hq hr2 hw1 hwsS hSl hone hb hvS hS hmk
      go_wp2_with fail
      refine HTR.out.mono ?_
      rintro e2 w4 ⟨⟨k', hk', rfl, ht1, ht2⟩, rfl⟩
      go_wp2_with fail
      refine HT1.out.mono ?_
      rintro e2 w4 ⟨⟨k2, hk2, rfl, ht3, ht4⟩, rfl⟩
      obtain ⟨l1, hl1⟩ : ∃ l', l' = S.take k' := ⟨_, rfl⟩
      obtain ⟨l2, hl2⟩ : ∃ l', l' = [r].take k2 := ⟨_, rfl⟩
      have e1 : k' = l1.length := by rw [hl1, List.length_take, HSL.out]; omega
      have e2 : k2 = l2.length := by rw [hl2, List.length_take]; simp; omega
      have hT1 := top_take hl1 (by rw [HSL.out]; omega) ht1
      have hT2 := top_take hl2 (by simpa using hk2) ht3
      have hv1 : val l1 = val l / y := by rw [hl1, val_take_top S k' ht2, HQ.out]
      have hv2 : val l2 = val l % y := by rw [hl2, val_take_top [r] k2 ht4, ← HR.out]; simp [val]
      have hws1 : WS wr (some ⟨w.heap.size, 0, none⟩) l1 := by rw [hl1]; exact HWS.out.take k'
      have hws2 : WS (wr.alloc (.cells #[.int .u32 (r : Int)] 83)) (some ⟨wr.heap.size, 0, none⟩) l2 := by rw [hl2]; exact HW1.out.take k2
      have FIN : Hid (WsP2 w (val l / y) (val l % y) (.returned (.tuple #[.slice (some ⟨w.heap.size, 0, none⟩) k' l.length, .slice (some ⟨wr.heap.size, 0, none⟩) k2 1])) (wr.alloc (.cells #[.int .u32 (r : Int)] 83))) :=
        Lib.hid ⟨_, _, l1, _, _, l2, by rw [e1, e2], by omega, by omega, hws1.below (ba (b0 _) _), hws2, hT1, hT2, hv1, hv2, ba (bo (b0 w) hO (Nat.le_refl _)) _⟩
      clear hl1 hl2 e1 e2 hT1 hT2 hv1 hv2 hws1 hws2 ht1 ht2 ht3 ht4
      go_wp2_with fail
      go_ret2
      exact FIN.out
    · obtain ⟨j', rfl⟩ : ∃ j', j = j' + 1 := ⟨j - 1, by omega⟩
      have hwsn := hA.only hO ho
      obtain ⟨bb, off, rfl, h8, h9⟩ := hwsn.at_ (by omega)
      have hc1 := ws_cell hwsn (show j' < l.length by omega)
      have hx := hwsn.lt j'
      have hlen : (zer (j' + 1) ++ S).length = l.length := by rw [List.length_append, zer_length]; omega
      have hc2 := hb.cell (i := j') (by omega)
      have hf2 := hb.free j'
      have HSEG := Lib.hid (seg_front' l (show j' < l.length by omega))
      clear h8 h9
      generalize gd l j' = x at *
      generalize gd (zer (j' + 1) ++ S) j' = yy at *
      obtain ⟨T, hT⟩ : ∃ T, T = x + 4294967296 * r := ⟨_, rfl⟩
      have hor : bits BinOp.or IntKind.u64 ((r : Int) * 4294967296) (x : Int) = (T : Int) := by rw [hT]; exact or64' x r hx (by omega)
      obtain ⟨Q, hQ⟩ : ∃ Q, Q = T / y := ⟨_, rfl⟩
      obtain ⟨R, hR⟩ : ∃ R, R = T % y := ⟨_, rfl⟩
      have hTQ : T = y * Q + R := by rw [hQ, hR]; exact (Nat.div_add_mod T y).symm
      have hRy : R < y := by rw [hR]; exact Nat.mod_lt _ hy0
      have hQl : Q < 4294967296 := by rw [hQ]; exact Nat.div_lt_of_lt_mul (by
        have := Nat.mul_le_mul_left 4294967296 (show r + 1 ≤ y from hr)
        rw [hT, Nat.mul_comm y 4294967296]; omega)
      have hd1 : (T : Int) / (y : Int) = (Q : Int) := by rw [hQ]; simp
      have hd2 : (T : Int).tdiv (y : Int) = (Q : Int) := by rw [Int.tdiv_eq_ediv_of_nonneg (by omega)]; exact hd1
      have hm1 : (T : Int) % (y : Int) = (R : Int) := by rw [hR]; simp
      have hm2 : (T : Int).tmod (y : Int) = (R : Int) := by rw [Int.tmod_eq_emod_of_nonneg (by omega)]; exact hm1
      have hTl : T < 18446744073709551616 := by omega
      have HT := Lib.hid hT
      have HTQ := Lib.hid hTQ
      have HS := Lib.hid hS
      have HB3 := Lib.hid hb
      clear hT hTQ hQ hR hS hb hwsn hlen hmk
      go_wp2_with fail
      go_roundw
      case rel =>
        refine ⟨j', Q :: S, R, by omega, rfl, rfl, hRy, by simp [HS.out]; omega, ?_, ?_, hO.set_ (.inl rfl) _⟩
        · refine Lib.hid ?_
          rw [HSEG.out]
          simp only [val]
          rw [hv.out]
          exact short_step HT.out HTQ.out
        · have h := HB3.out.set_ (i := j') hQl
          rw [zer_set'] at h
          have em : ((Q : Int) % 4294967296) = (Q : Int) := by omega
          first | exact h | (rw [em]; exact h)
      case measure => simp [intOf]

theorem words_drop {l : List Nat} (h : ∀ x ∈ l, x < 4294967296) (j : Nat) : ∀ x ∈ l.drop j, x < 4294967296 := fun x hx => h x (List.mem_of_mem_drop hx)
theorem l_seg {l : List Nat} (h : ∀ x ∈ l, x < 4294967296) (j n : Nat) : ∀ x ∈ seg l j n, x < 4294967296 := fun x hx => h x (List.mem_of_mem_drop (List.mem_of_mem_take hx))
theorem and_mask (p : Nat) (hp : p < 18446744073709551616) : bits BinOp.and IntKind.u64 (p : Int) 4294967295 = ((p % 4294967296 : Nat) : Int) := by
  have h := u64_and_nat p 4294967295 hp (by omega)
  have h2 := Nat.and_two_pow_sub_one_eq_mod p 32
  rw [show (2 ^ 32 - 1 : Nat) = 4294967295 from rfl, show (2 ^ 32 : Nat) = 4294967296 from rfl] at h2
  rw [h2] at h
  exact h

theorem OwnR.only' {base : Nat} {W W' : World} {v : Value} {l : List Nat} {q : Nat} (h : OwnR base W v l) (hO : Only q W W') (hq : ∀ k, v.ownBlock = some k → k ≠ q) : OwnR base W' v l :=
  ⟨h.1.kept hO (by
    cases hv : v.ownBlock with
    | none => exact .inl rfl
    | some k => exact .inr (fun e => hq k hv (by injection e))), h.2⟩
theorem OwnR.cells {base : Nat} {W : World} {g n cap : Nat} {l : List Nat} (h : OwnR base W (.slice (some ⟨g, 0, none⟩) n cap) l) (h0 : 0 < l.length) : n = l.length ∧ base ≤ g ∧ g < W.heap.size ∧ l.length ≤ cap ∧ (∀ j, j < l.length → W.cell? ⟨g, j, none⟩ = some (.int .u32 ((gd l j : Nat) : Int))) ∧ ∀ i, W.frozen? ⟨g, i, none⟩ = false := by
  obtain ⟨g', cap', e, h1, h2, h3, h4, h5, h6⟩ := h.some_ h0
  injection e with e1 e2 e3
  injection e1 with e1
  injection e1 with e1
  subst e1 e3
  exact ⟨e2, h1, h2, h3, fun j hj => by have := ws_cell h4 hj; simpa using this, h6⟩

/-- Between two rounds of division: the quotient's words from K on and what is left. -/
structure DvI (D A' K n N : Nat) (Q L : List Nat) : Prop where
  zero : ∀ j, j < K → gd Q j = 0
  eq : val Q * D + val L = A'
  low : val (L.drop K) < D
  ql : Q.length = N - n
  ll : L.length = N
  kn : K + n ≤ N
theorem DvI.start {D A' n m : Nat} {l : List Nat} (hn : 2 ≤ n) (hm : n ≤ m) (hl : l.length = m) (hw : ∀ x ∈ l, x < 4294967296) (hv : val l = A') (hD : BB (n - 1) ≤ D) : DvI D A' (m + 2 - n) n (m + 2) (zer (m + 2 - n)) (l ++ [0, 0]) := by
  refine ⟨fun j hj => ?_, ?_, ?_, by rw [zer_length], by rw [List.length_append, hl]; rfl, by omega⟩
  · unfold gd zer
    rw [List.getD_eq_getElem?_getD, List.getElem?_replicate]
    split <;> rfl
  · rw [val_zer, Nat.zero_mul, Nat.zero_add, val_append, hv]; simp [val]
  · rw [List.drop_append_of_le_length (by omega), val_append, show val [0, 0] = 0 from by simp [val], Nat.mul_zero, Nat.add_zero]
    have h1 := val_lt (words_drop hw (m + 2 - n))
    rw [List.length_drop, hl] at h1
    have h2 : BB (m - (m + 2 - n)) ≤ BB (n - 1) := Nat.pow_le_pow_right (by decide) (by omega)
    omega
theorem DvI.step {D A' k n N g : Nat} {Q L T : List Nat} (h : DvI D A' (k + 1) n N Q L) (hD : D < BB n) (hn : 1 ≤ n) (hT : T.length = n + 1) (hW : val T + g * D = val (seg L k (n + 1))) (hWD : val T < D) : DvI D A' k n N (Q.set k g) (spl L k T) := by
  have hkn := h.kn
  have hkl : k + n < L.length := by rw [h.ll]; omega
  obtain ⟨h1, h2⟩ := dv_round hD hkl hT h.eq h.low hW hWD (by rw [h.ql]; omega) (h.zero k (by omega))
  refine ⟨fun j hj => ?_, h1, h2, by rw [List.length_set]; exact h.ql, by rw [spl_length (by omega)]; exact h.ll, by omega⟩
  unfold gd
  rw [List.getD_eq_getElem?_getD, List.getElem?_set_ne (by omega), ← List.getD_eq_getElem?_getD]
  exact h.zero j (by omega)
/-- The guess is not too small. -/
theorem dv_top {D A' k n N dt : Nat} {Q L : List Nat} (h : DvI D A' (k + 1) n N Q L) (hw : ∀ x ∈ L, x < 4294967296) (hn : 2 ≤ n) (hD : BB (n - 1) * dt ≤ D) (hDn : D < BB n) (hdt : 0 < dt) :
    val (seg L k (n + 1)) < 4294967296 * D ∧ val (seg L k (n + 1)) < ((gd L (k + n - 1) + 4294967296 * gd L (k + n)) / dt + 1) * D := by
  have hkn := h.kn
  have hkl : k + n < L.length := by rw [h.ll]; omega
  have hz := dv_hz hDn hkl h.low
  have h1 := val_drop_cons L (show k < L.length by omega)
  have h2 := val_seg_drop L k (n + 1) (by omega)
  rw [hz, Nat.mul_zero, Nat.add_zero] at h2
  have h3 := getD_lt hw k
  have h4 := h.low
  refine ⟨by omega, ?_⟩
  have h5 : val (seg L k (n + 1)) = val (seg L k (n - 1)) + BB (n - 1) * (gd L (k + n - 1) + 4294967296 * gd L (k + n)) := by
    rw [val_seg_succ L k (k := n) (by omega)]
    have h6 := val_seg_succ L k (k := n - 1) (by omega)
    rw [show n - 1 + 1 = n by omega, show k + (n - 1) = k + n - 1 by omega] at h6
    rw [h6, Nat.mul_add, ← Nat.mul_assoc, show BB n = BB (n - 1) * 4294967296 from by rw [← BB_succ, show n - 1 + 1 = n by omega]]
    omega
  refine dv_guess h5 ?_ hD ?_
  · have := val_lt (l_seg hw k (n - 1))
    rw [seg_length (by omega)] at this
    exact this
  · have := Nat.lt_mul_div_succ (gd L (k + n - 1) + 4294967296 * gd L (k + n)) hdt
    exact Nat.lt_of_lt_of_eq this (Nat.mul_comm _ _)
end Go.Proofs.YtgljdfblgpdaaaaGreatDoor
