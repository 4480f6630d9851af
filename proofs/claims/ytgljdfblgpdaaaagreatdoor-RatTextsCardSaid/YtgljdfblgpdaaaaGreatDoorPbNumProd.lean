import Derived.Test.YtgljdfblgpdaaaaGreatDoorPbNumInt
set_option linter.unusedSimpArgs false
set_option linter.unusedVariables false
set_option maxRecDepth 100000
set_option maxHeartbeats 4000000
namespace Go.Proofs.YtgljdfblgpdaaaaGreatDoor
open Go.RowKit
variable {A : Option Addr} {K N b g i o off r : Nat} {L S k l : List Nat} {w : World}
theorem add_step {vS K r z vs vl x t : Nat} (hv : vS + K * r = vs + vl) (ht : t = z + x + r) :
  vS + K * (t % 4294967296) + K * 4294967296 * (t / 4294967296) = vs + K * z + (vl + K * x) := by
 have h1 : K * (t % 4294967296) + K * 4294967296 * (t / 4294967296) = K * t := by
  rw [Nat.mul_assoc, ← Nat.mul_add, Nat.mod_add_div]
 rw [Nat.add_assoc, h1, ht]
 have h2 : K * (z + x + r) = K * z + K * x + K * r := by rw [Nat.mul_add, Nat.mul_add]
 omega
theorem full_zero {vS B r s : Nat} (h : vS + B * r = s) (h2 : s < B) : r = 0 := by
 rcases Nat.eq_zero_or_pos r with h0 | h0
 ·exact h0
 ·have := Nat.le_mul_of_pos_right B h0; omega
theorem addTo_any (g o m d : Nat) (L : List Nat) (A : Option Addr) (n c : Nat) (l : List Nat) (w : World) (hn : l.length = n) (hm : n ≤ m) (hm2 : m ≤ 4000000) (hL : o + m ≤ L.length)
  (hg : Blk w g L) (hl : WS w A l) (ho : Off A l g) (hfit : val (seg L o m) + val l < BB m) :
  Calls Tryz.prog 180 #[.slice (some ⟨g, o, none⟩) m d, .slice A n c] w fun e w' =>
   ∃ (S : List Nat), e = .returned (.tuple #[]) ∧ S.length ≤ m ∧ (∀ x ∈ S, x < 4294967296) ∧ val S = val (seg L o S.length) + val l ∧ Blk w' g (spl L o S) ∧ Only g w w' := by
 subst hn
 have HF := Hi hfit
 clear hfit
 go_enter Tryz.func180, Tryz.ntmps180
 go_wp2_with fail
 go_loopw [4, 12] (fun cv iv wr => ∃ (k : Nat) (S : List Nat) (r : Nat), k ≤ l.length ∧ iv = .int .i64 k ∧ cv = .int .u64 (r : Int) ∧ r ≤ 1 ∧ S.length = k ∧ (∀ x ∈ S, x < 4294967296) ∧ val S + BB k * r = val (seg L o k) + val (l.take k) ∧ Blk wr g (spl L o S) ∧ Only g w wr) (fun _ iv _ => l.length - (intOf iv).toNat)
 case atStart => exact ⟨0, [], 0, Nat.zero_le _, rfl, rfl, by omega, rfl, by simp, by simp [seg_zero, val], by rw [spl_nil]; exact hg, only_refl _ _⟩
 case round =>
  obtain ⟨k, S, r, hk, rfl, rfl, hr, hS, hSw, hv, hb, hO⟩ := hrel
  by_cases hlt : k < l.length
  ·obtain ⟨b, off, rfl, hblt, hc⟩ := (hl.only hO ho).at_ (by omega)
   have hc1 := hc k hlt
   have hc2 := hb.cell (i := o + k) (by rw [spl_length (by omega)]; omega)
   have hf2 := hb.free (o + k)
   rw [spl_get (by omega) (by omega)] at hc2
   have hx := hl.lt k
   have hz := getD_lt hg.1 (o + k)
   have H1 := Hi (val_take l hlt)
   have H2 := Hi (val_seg_succ L o (k := k) (by omega))
   have hkm : (k : Int) < (m : Int) := by omega
   clear hc
   generalize gd l k = x at *
   generalize gd L (o + k) = z at *
   have HS := Hi hS
   have HV := Hi hv
   clear hv hS
   go_wp2_with fail
   go_roundw
   case rel =>
    have et : (z + x + r) % 4294967296 < 4294967296 := Nat.mod_lt _ (by decide)
    refine ⟨k + 1, S ++ [(z + x + r) % 4294967296], (z + x + r) / 4294967296, by omega, by go_num, by go_num, by omega, by simp [HS.out], words_snoc hSw et, ?_, ?_, hO.set_ (.inl rfl) _⟩
    ·rw [val_snoc, HS.out, H2.out, H1.out, BB_succ]
     exact add_step HV.out rfl
    ·have h := hb.set_ (i := o + k) et
     exact m638c3
   case measure => simp [intOf]; omega
  ·have he : k = l.length := by omega
   subst he
   rw [List.take_length] at hv
   have hnl : ¬ (l.length : Int) < (l.length : Int) := by omega
   have HS0 := Hi hS
   have HV0 := Hi hv
   clear hS hv hk hlt hl
   obtain ⟨wo, hwo⟩ : ∃ wo : World, wo = wr := ⟨_, rfl⟩
   rw [← hwo] at hb hO ⊢
   clear hwo
   go_wp2_with fail
   go_loopw [4, 8] (fun cv iv wr => ∃ (k : Nat) (S : List Nat) (r : Nat), k ≤ m ∧ iv = .int .i64 k ∧ cv = .int .u64 (r : Int) ∧ r ≤ 1 ∧ S.length = k ∧ (∀ x ∈ S, x < 4294967296) ∧ Hid (val S + BB k * r = val (seg L o k) + val l) ∧ Blk wr g (spl L o S) ∧ Only g w wr) (fun _ iv _ => m - (intOf iv).toNat)
   case atStart => exact ⟨l.length, S, r, hm, rfl, rfl, hr, HS0.out, hSw, HV0, hb, hO⟩
   case round =>
    obtain ⟨k, S, r, hk, rfl, rfl, hr, hS, hSw, hv, hb, hO⟩ := hrel
    rcases Nat.eq_zero_or_pos r with rfl | hr0
    ·go_wp2_with fail
     go_end0
     exact ⟨S, rfl, by omega, hSw, by have := hv.out; rw [Nat.mul_zero, Nat.add_zero] at this; rw [hS]; exact this, hb, hO⟩
    ·obtain rfl : r = 1 := by omega
     clear hr0 hr
     have hkm : k < m := by
      rcases Nat.lt_or_ge k m with h | h
      ·exact h
      ·have he : k = m := by omega
       subst he
       have := full_zero hv.out HF.out
       omega
     have hkmi : (k : Int) < (m : Int) := by omega
     have hc2 := hb.cell (i := o + k) (by rw [spl_length (by omega)]; omega)
     have hf2 := hb.free (o + k)
     rw [spl_get (by omega) (by omega)] at hc2
     have hz := getD_lt hg.1 (o + k)
     have H2 := Hi (val_seg_succ L o (k := k) (by omega))
     generalize gd L (o + k) = z at *
     have HS := Hi hS
     clear hS
     go_wp2_with fail
     go_roundw
     case rel =>
      have et : (z + 1) % 4294967296 < 4294967296 := Nat.mod_lt _ (by decide)
      refine ⟨k + 1, S ++ [(z + 1) % 4294967296], (z + 1) / 4294967296, by omega, by go_num, by go_num, by omega, by simp [HS.out], words_snoc hSw et, Hi ?_, ?_, hO.set_ (.inl rfl) _⟩
      ·rw [val_snoc, HS.out, H2.out, BB_succ]
       have := add_step (x := 0) hv.out (t := z + 1) (z := z) (by omega)
       omega
      ·have h := hb.set_ (i := o + k) et
       exact m638c3
     case measure => simp [intOf]; omega
open Go.RowKit
variable {A : Option Addr} {K N b g i o off r : Nat} {L S k l : List Nat} {w : World}
def ProdOk (M : Nat) : Prop := ∀ (a w : World) (A B : Option Addr) (n c m d : Nat) (l k : List Nat), l.length = n → k.length = m → n + m < M → n ≤ c → m ≤ d → WS w A l → WS w B k → Below a.heap.size a w →
 Calls Tryz.prog 101 #[.slice A n c, .slice B m d] w (Res a (val l * val k))
theorem val_spl (h : o + S.length ≤ L.length) : val (spl L o S) + BB o * val (seg L o S.length) = val L + BB o * val S := by
 have e1 : val L = val (L.take o) + BB o * val (L.drop o) := by
  have := val_append (L.take o) (L.drop o)
  rwa [List.take_append_drop, List.length_take, Nat.min_eq_left (by omega)] at this
 have e2 : val (L.drop o) = val (seg L o S.length) + BB S.length * val (L.drop (o + S.length)) := by
  have := val_append ((L.drop o).take S.length) ((L.drop o).drop S.length)
  rw [List.take_append_drop, List.length_take, Nat.min_eq_left (by simp; omega), List.drop_drop] at this
  exact this
 have e3 : val (spl L o S) = val (L.take o) + BB o * (val S + BB S.length * val (L.drop (o + S.length))) := by
  unfold spl
  rw [List.append_assoc, val_append, val_append, List.length_take, Nat.min_eq_left (by omega)]
 rw [e3, e1, e2, Nat.mul_add, Nat.mul_add]
 omega
theorem seg_all {o n : Nat} (h : o + n = L.length) : seg L o n = L.drop o := by
 unfold seg
 exact List.take_of_length_le (by simp; omega)
theorem WS.take (h : WS w A l) (k : Nat) : WS w A (l.take k) := by
 refine ⟨words_take h.1 k, fun hne => ?_⟩
 obtain ⟨b, off, e, hlt, hc⟩ := h.2 (fun e => hne (by rw [e]; simp))
 refine ⟨b, off, e, hlt, fun j hj => ?_⟩
 have hj' : j < k ∧ j < l.length := by simp at hj; omega
 rw [hc j hj'.2, gd_take hj'.1]
theorem WS.drop (h : WS w (some ⟨b, off, none⟩) l) (k : Nat) : WS w (some ⟨b, off + k, none⟩) (l.drop k) := by
 refine ⟨fun x hx => h.1 x (List.mem_of_mem_drop hx), fun hne => ?_⟩
 obtain ⟨b', off', e, hlt, hc⟩ := h.2 (fun e => hne (by rw [e]; simp))
 injection e with e
 injection e with e1 e2
 subst e1 e2
 refine ⟨b, off + k, rfl, hlt, fun j hj => ?_⟩
 have hj' : k + j < l.length := by simp at hj; omega
 rw [Nat.add_assoc, hc (k + j) hj', gd_drop]
theorem OwnS.off_ {a w : World} (h : OwnS a w A l) (hg : g < a.heap.size) : Off A l g := fun hl b o e => by
 obtain ⟨g', L, e', hge, _⟩ := h hl
 rw [e] at e'
 injection e' with e'
 injection e' with e1 _
 omega
theorem Off.sub {b off off' g : Nat} (h : Off (some ⟨b, off, none⟩) l g) (hk : k ≠ [] → l ≠ []) : Off (some ⟨b, off', none⟩) k g := fun hne b' o e => by
 injection e with e
 injection e with e1 _
 subst e1
 exact h (hk hne) b off rfl
theorem pie_fit {l k S l3 : List Nat} {i p N : Nat} (hS : S.length = N) (hN : N = l.length + k.length) (hSw : ∀ x ∈ S, x < 4294967296) (hlw : ∀ x ∈ l, x < 4294967296) (hkw : ∀ x ∈ k, x < 4294967296) (hv : val S = val (l.take i) * val k)
  (hv3 : val l3 = val ((l.drop i).take p) * val k) (ht3 : Top l3) (hip : i + p ≤ l.length) :
  l3.length ≤ N - i ∧ val (seg S i (N - i)) + val l3 < BB (N - i) ∧ val S + BB i * val l3 = val (l.take (i + p)) * val k := by
 have e1 : val (l.take (i + p)) = val (l.take i) + BB i * val ((l.drop i).take p) := by
  have := val_append ((l.take (i + p)).take i) ((l.take (i + p)).drop i)
  rw [List.take_append_drop, List.take_take, Nat.min_eq_left (by omega), List.drop_take, Nat.add_sub_cancel_left, List.length_take, Nat.min_eq_left (by omega)] at this
  exact this
 have e2 : val S + BB i * val l3 = val (l.take (i + p)) * val k := by
  rw [hv, hv3, e1, Nat.add_mul, Nat.mul_assoc]
 have l1 := val_lt (words_take hlw (i + p))
 rw [List.length_take, Nat.min_eq_left (by omega)] at l1
 have l2 := val_lt hkw
 have l4 : val (l.take (i + p)) * val k < BB (i + p) * BB k.length := Nat.mul_lt_mul'' l1 l2
 rw [← BB_add] at l4
 have l5 := BB_mono (show i + p + k.length ≤ N by omega)
 have l6 : BB N = BB i * BB (N - i) := by rw [← BB_add]; congr 1; omega
 have l7 : val S = val (S.take i) + BB i * val (seg S i (N - i)) := by
  rw [seg_all (by omega)]
  exact val_split S i (by omega)
 have l8 : BB i * (val (seg S i (N - i)) + val l3) < BB i * BB (N - i) := by
  rw [Nat.mul_add, ← l6]
  omega
 have l9 := Nat.lt_of_mul_lt_mul_left l8
 exact ⟨top_len ht3 (by omega), l9, e2⟩
def FillP (g N V : Nat) (w : World) (e : Ending) (w' : World) : Prop := ∃ S : List Nat, e = .returned (.tuple #[]) ∧ S.length = N ∧ val S = V ∧ Blk w' g S ∧ Only g w w'
theorem byPieces_any (g N : Nat) (A B : Option Addr) (c d : Nat) (l k : List Nat) (w : World) (hN : N = l.length + k.length) (h48 : 0 < k.length) (h2 : 2 * k.length ≤ l.length + 1) (hkl : k.length < l.length) (hn2 : N ≤ 2000000) (hc : l.length ≤ c) (hd : k.length ≤ d) (hP : ProdOk N)
  (hg : Blk w g (zer N)) (hl : WS w A l) (hk : WS w B k) (hoA : Off A l g) (hoB : Off B k g) :
  Calls Tryz.prog 153 #[.slice (some ⟨g, 0, none⟩) N N, .slice A l.length c, .slice B k.length d] w (FillP g N (val l * val k) w) := by
 have hll : l.length ≤ 2000000 := by omega
 have hkk : k.length ≤ 2000000 := by omega
 have HN := Hi hN
 have HP := Hi hP
 clear hN hP
 go_enter Tryz.func153, Tryz.ntmps153
 go_wp2_with fail
 go_loopw [6] (fun iv wr => ∃ (i : Nat) (S : List Nat), i ≤ l.length + k.length ∧ iv = .int .i64 (i : Int) ∧ Hid (S.length = N) ∧ Hid (val S = val (l.take i) * val k) ∧ Blk wr g S ∧ Only g w wr) (fun iv _ => l.length - (intOf iv).toNat)
 case atStart => exact ⟨0, zer N, by omega, rfl, Hi (zer_length _), Hi (by simp [val_zer, val]), hg, only_refl _ _⟩
 case round =>
  obtain ⟨i, S, hi, rfl, hS, hv, hb, hO⟩ := hrel
  by_cases hlt : i < l.length
  ·have hlti : (i : Int) < (l.length : Int) := by omega
   obtain ⟨p, hp⟩ : ∃ p, p = min (i + k.length) l.length - i := ⟨_, rfl⟩
   have hp1 : i + p ≤ l.length := by omega
   have hp2 : p ≤ k.length := by omega
   have hp0 : 0 < p := by omega
   have hpi : (i + p - i) = p := by omega
   have hp3 : i + k.length < l.length → p = k.length := by omega
   have hip : (i : Int) ≤ ((i + p : Nat) : Int) := by omega
   have hipc : ((i + p : Nat) : Int) ≤ (c : Int) := by omega
   have hci : decide (c = i) = false := by simp; omega
   have hNi : i < N := by have := HN.out; omega
   have hNi2 : decide (N = i) = false := by simp; omega
   have hiN : (i : Int) ≤ (N : Int) := by omega
   have hcase : ((i : Int) + (k.length : Int) ≤ (l.length : Int) ∧ p = k.length) ∨ ((l.length : Int) < (i : Int) + (k.length : Int) ∧ p = l.length - i) := by omega
   clear hp hp3
   obtain ⟨b, off, rfl, _, _⟩ := hl.at_ (by omega)
   have hPs := (hl.drop i).take p
   have hPl : ((l.drop i).take p).length = p := by simp; omega
   have hofP : Off (some ⟨b, off + i, none⟩) ((l.drop i).take p) g := hoA.sub (fun _ e => by rw [e] at hlt; simp at hlt)
   have HPL := Hi hPl
   clear hPl
   rcases hcase with ⟨hcs, hpk⟩ | ⟨hcs, hpk⟩
   all_goals
    have HPK := Hi hpk
    clear hpk
    have sz1 : wr.heap.size ≤ wr.heap.size := Nat.le_refl _
    go_wp2_with fail
    go_region_held3 (fun W => wr.heap.size ≤ W.heap.size) (first | assumption | exact Nat.le_refl _ | exact sz1)
     (first
      | (go_at_call 139; refine (trim_any (some ⟨b, off + i, none⟩) _ (c - i) ((l.drop i).take p) _ (by have := HPL.out; have := HPK.out; omega) (by omega) (by omega) ((hPs.only hO hofP).below (bd (b0 _) _))).mono ?_; rintro e w2 ⟨⟨q, hq, rfl, hq1, hq2⟩, rfl⟩; have HQ1 := Hi hq1; have HQ2 := Hi hq2; clear hq1 hq2)
      | (go_at_call 101; refine (HP.out wr _ (some ⟨b, off + i, none⟩) B q (c - i) k.length d (((l.drop i).take p).take q) k (by rw [List.length_take, HPL.out]; have := HPK.out; omega) rfl (by have := HN.out; have := HPK.out; omega) (by have := HPK.out; omega) hd (((hPs.only hO hofP).take q).below (bd (b0 _) _)) ((hk.only hO hoB).below (bd (b0 _) _)) (bd (b0 _) _)).mono ?_; rintro e w3 ⟨A3, c3, l3, rfl, hc3, ho3, ht3, hv3, hb3⟩; have HF := Hi (pie_fit hS.out HN.out hb.1 hl.1 hk.1 hv.out (hv3.trans (by rw [val_take_top _ _ HQ2.out])) ht3 hp1); have sz3 : wr.heap.size ≤ w3.heap.size := hb3.size; clear hv3)
      | (go_at_call 180; refine (addTo_any g i (N - i) (N - i) S A3 l3.length c3 l3 w3 rfl HF.out.1 (by omega) (by rw [hS.out]; omega) (hb.below hb3) ho3.ws (ho3.off_ hb.lt) HF.out.2.1).mono ?_; rintro e w4 ⟨S', rfl, hS'l, hS'w, hS'v, hb4, hO4⟩; have HSV := Hi hS'v; have HSL := Hi hS'l; clear hS'v hS'l; have sz4 : wr.heap.size ≤ w4.heap.size := Nat.le_trans hb3.size hO4.size))
    go_wp2_with fail
    go_roundw
    case rel =>
     have hsl : i + S'.length ≤ S.length := by have := HSL.out; have := hS.out; omega
     refine ⟨i + k.length, spl S i S', by omega, by go_num, Hi ?_, Hi ?_, hb4, (hO.below hb3).trans hO4⟩
     ·rw [spl_length hsl, hS.out]
     ·have e1 := val_spl hsl
      rw [HSV.out, Nat.mul_add] at e1
      have e2 : l.take (i + k.length) = l.take (i + p) := by
       have := HPK.out
       rcases Nat.lt_or_ge (i + p) l.length with h | h
       ·rw [show p = k.length by omega]
       ·rw [List.take_of_length_le h, List.take_of_length_le (by omega)]
      rw [e2, ← HF.out.2.2]
      omega
    case measure => simp [intOf]; omega
  ·have hnl : ¬ (i : Int) < (l.length : Int) := by omega
   go_wp2_with fail
   go_end0
   exact ⟨S, rfl, hS.out, by rw [hv.out, List.take_of_length_le (by omega)], hb, hO⟩
open Go.RowKit
variable {A : Option Addr} {K N b g i o off r : Nat} {L S k l : List Nat} {w : World}
theorem fit_at (hS : S.length = N) (hi : i ≤ N) (h : val S + BB i * r < BB N) : val (seg S i (N - i)) + r < BB (N - i) := by
 have l6 : BB N = BB i * BB (N - i) := by rw [← BB_add]; congr 1; omega
 have l7 : val S = val (S.take i) + BB i * val (seg S i (N - i)) := by
  rw [seg_all (by omega)]
  exact val_split S i (by omega)
 have l8 : BB i * (val (seg S i (N - i)) + r) < BB i * BB (N - i) := by
  rw [Nat.mul_add, ← l6]
  omega
 exact Nat.lt_of_mul_lt_mul_left l8
theorem spl_add {S S' : List Nat} (h : i + S'.length ≤ S.length) (hv : val S' = val (seg S i S'.length) + r) : val (spl S i S') = val S + BB i * r := by
 have e1 := val_spl h
 rw [hv, Nat.mul_add] at e1
 omega
theorem kar {x0 x1 y0 y1 B : Nat} : x0 * y0 + B * B * (x1 * y1) + B * ((x0 + x1) * (y0 + y1) - x0 * y0 - x1 * y1) = (x0 + B * x1) * (y0 + B * y1) := by
 have h1 : (x0 + x1) * (y0 + y1) - x0 * y0 - x1 * y1 = x0 * y1 + x1 * y0 := by
  rw [Nat.add_mul, Nat.mul_add, Nat.mul_add]
  omega
 rw [h1, Nat.add_mul, Nat.mul_add, Nat.mul_add, Nat.mul_add]
 have e1 : x0 * (B * y1) = B * (x0 * y1) := by rw [Nat.mul_left_comm]
 have e2 : B * x1 * y0 = B * (x1 * y0) := Nat.mul_assoc _ _ _
 have e3 : B * x1 * (B * y1) = B * B * (x1 * y1) := by rw [Nat.mul_mul_mul_comm]
 omega
theorem kar_fit (hlw : ∀ x ∈ l, x < 4294967296) (hkw : ∀ x ∈ k, x < 4294967296) (hN : N = l.length + k.length) (hK : K ≤ l.length) (hK2 : K ≤ k.length) :
  val (l.take K) * val (k.take K) + BB (2 * K) * (val (l.drop K) * val (k.drop K)) + BB K * ((val (l.take K) + val (l.drop K)) * (val (k.take K) + val (k.drop K)) - val (l.take K) * val (k.take K) - val (l.drop K) * val (k.drop K)) = val l * val k ∧ val l * val k < BB N := by
 have l1 := val_lt hlw
 have l2 := val_lt hkw
 have l4 : val l * val k < BB l.length * BB k.length := Nat.mul_lt_mul'' l1 l2
 rw [← BB_add, ← hN] at l4
 refine ⟨?_, l4⟩
 have e := kar (x0 := val (l.take K)) (x1 := val (l.drop K)) (y0 := val (k.take K)) (y1 := val (k.drop K)) (B := BB K)
 rw [← BB_add, show K + K = 2 * K by omega, ← val_split l K hK, ← val_split k K hK2] at e
 exact e
theorem sum_len {l1 l k : List Nat} (h1 : Top l1) (hl : val l < BB K) (hk : val k < BB K) (hv : val l1 = val l + val k) : l1.length ≤ K + 1 := by
 refine top_len h1 ?_
 rw [hv, BB_succ]
 omega
theorem byHalves_any (g N : Nat) (A B : Option Addr) (c d : Nat) (l k : List Nat) (w : World) (hN : N = l.length + k.length) (h48 : 48 < k.length) (h2 : l.length + 1 < 2 * k.length) (hkl : k.length ≤ l.length) (hn2 : N ≤ 2000000) (hc : l.length ≤ c) (hd : k.length ≤ d) (hP : ProdOk N)
  (hg : Blk w g (zer N)) (hl : WS w A l) (hk : WS w B k) (hoA : Off A l g) (hoB : Off B k g) :
  Calls Tryz.prog 154 #[.slice (some ⟨g, 0, none⟩) N N, .slice A l.length c, .slice B k.length d] w (FillP g N (val l * val k) w) := by
 obtain ⟨K, hKd⟩ : ∃ K, K = (l.length + 1) / 2 := ⟨_, rfl⟩
 have hKi : ((l.length : Int) + 1) / 2 = (K : Int) := by omega
 have hK1 : K < k.length := by omega
 have hK2 : K < l.length := by omega
 have hK3 : 2 * K < N := by omega
 have hK0 : 0 < K := by omega
 have hKN : K < N := by omega
 have hll : l.length ≤ 2000000 := by omega
 have hsum1 : l.length - K ≤ K := by omega
 have hsum2 : k.length - K ≤ K := by omega
 have hrec : 2 * (K + 1) < N := by omega
 have hKl : (K : Int) ≤ (l.length : Int) := by omega
 have hKk : (K : Int) ≤ (k.length : Int) := by omega
 have hKc : (K : Int) ≤ (c : Int) := by omega
 have hKdd : (K : Int) ≤ (d : Int) := by omega
 have hcK : decide (c = K) = false := by simp; omega
 have hdK : decide (d = K) = false := by simp; omega
 have hNK : decide (N = K) = false := by simp; omega
 have hNK2 : decide (N = 2 * K) = false := by simp; omega
 have hKNi : (K : Int) ≤ (N : Int) := by omega
 have hK2Ni : 2 * (K : Int) ≤ (N : Int) := by omega
 have HKD := Hi hKd
 have HN := Hi hN
 have HP := Hi hP
 clear hN hP hKd
 obtain ⟨b1, o1, rfl, _, _⟩ := hl.at_ (by omega)
 obtain ⟨b2, o2, rfl, _, _⟩ := hk.at_ (by omega)
 have hl0 := hl.take K
 have hk0 := hk.take K
 have hl1 := hl.drop K
 have hk1 := hk.drop K
 have hlen0 : (l.take K).length = K := by simp; omega
 have hlen1 : (k.take K).length = K := by simp; omega
 have hlen2 : (l.drop K).length = l.length - K := by simp
 have hlen3 : (k.drop K).length = k.length - K := by simp
 have L0 := Hi hlen0
 have L1 := Hi hlen1
 have L2 := Hi hlen2
 have L3 := Hi hlen3
 have hKF := kar_fit hl.1 hk.1 HN.out (Nat.le_of_lt hK2) (Nat.le_of_lt hK1)
 have HKF := Hi hKF
 have hx0 := val_lt hl0.1
 have hy0 := val_lt hk0.1
 have hx1 := Nat.lt_of_lt_of_le (val_lt hl1.1) (BB_mono (show (l.drop K).length ≤ K by omega))
 have hy1 := Nat.lt_of_lt_of_le (val_lt hk1.1) (BB_mono (show (k.drop K).length ≤ K by omega))
 rw [L0.out] at hx0
 rw [L1.out] at hy0
 have HX0 := Hi hx0
 have HY0 := Hi hy0
 have HX1 := Hi hx1
 have HY1 := Hi hy1
 clear hlen0 hlen1 hlen2 hlen3 hKF hx0 hy0 hx1 hy1
 have sz1 : w.heap.size ≤ w.heap.size := Nat.le_refl _
 go_enter Tryz.func154, Tryz.ntmps154
 go_wp2_with fail
 go_region_held3 (fun W => w.heap.size ≤ W.heap.size) (first | assumption | exact Nat.le_refl _ | exact sz1)
  (first
   | (go_at_call 139; refine (trim_any (some ⟨b1, o1, none⟩) K c (l.take K) _ L0.out (by omega) (by omega) (hl0.below (bd (b0 _) _))).mono ?_; rintro e w2 ⟨⟨q1, hq1, rfl, hq11, hq12⟩, rfl⟩; have HQ11 := Hi hq11; have HQ12 := Hi hq12; clear hq11 hq12))
 go_wp2_with fail
 go_region_held3 (fun W => w.heap.size ≤ W.heap.size) (first | assumption | exact Nat.le_refl _ | exact sz1)
  (first
   | (go_at_call 139; refine (trim_any (some ⟨b2, o2, none⟩) K d (k.take K) _ L1.out (by omega) (by omega) (hk0.below (bd (b0 _) _))).mono ?_; rintro e w2 ⟨⟨q2, hq2, rfl, hq21, hq22⟩, rfl⟩; have HQ21 := Hi hq21; have HQ22 := Hi hq22; clear hq21 hq22))
 go_wp2_with fail
 have bd2 : Below w.heap.size w (w.drewN 2) := bd (b0 _) _
 obtain ⟨W0, hW0⟩ : ∃ W, W = w.drewN 2 := ⟨_, rfl⟩
 rw [← hW0] at bd2 ⊢
 have hg0 : Blk W0 g (zer N) := hg.below bd2
 have vt1 : val ((l.take K).take q1) = val (l.take K) := val_take_top _ _ HQ12.out
 have vt2 : val ((k.take K).take q2) = val (k.take K) := val_take_top _ _ HQ22.out
 have VT1 := Hi vt1
 have VT2 := Hi vt2
 have TL1 : Hid (((l.take K).take q1).length = q1) := Hi (by rw [List.length_take, L0.out]; omega)
 have TL2 : Hid (((k.take K).take q2).length = q2) := Hi (by rw [List.length_take, L1.out]; omega)
 have hla := (hl0.take q1).below bd2
 have hka := (hk0.take q2).below bd2
 have hlb := hl1.below bd2
 have hkb := hk1.below bd2
 clear hW0 vt1 vt2 hl0 hk0 hl1 hk1 sz1
 refine (HP.out W0 W0 _ _ q1 c q2 d _ _ TL1.out TL2.out (by omega) (by omega) (by omega) hla hka (b0 _)).mono ?_
 rintro e w3 ⟨A3, c3, l3, rfl, hc3, ho3, ht3, hv3, hb3⟩
 have HV3 : Hid (val l3 = val (l.take K) * val (k.take K)) := Hi (by rw [hv3, VT1.out, VT2.out])
 clear hv3
 go_wp2_with fail
 refine (HP.out w3 w3 _ _ (l.length - K) (c - K) (k.length - K) (d - K) _ _ L2.out L3.out (by omega) (by omega) (by omega) (hlb.below hb3) (hkb.below hb3) (b0 _)).mono ?_
 rintro e w4 ⟨A4, c4, l4, rfl, hc4, ho4, ht4, hv4, hb4⟩
 have HV4 := Hi hv4
 clear hv4
 go_wp2_with fail
 have hb34 := bt hb3 hb4
 refine (sum_any w4 w4 _ _ q1 c (l.length - K) (c - K) _ _ TL1.out L2.out (by omega) (by omega) (hla.below hb34) (hlb.below hb34) (b0 _)).mono ?_
 rintro e w5 ⟨A5, c5, l5, rfl, hc5, ho5, ht5, hv5, hb5⟩
 have HV5 : Hid (val l5 = val (l.take K) + val (l.drop K)) := Hi (by rw [hv5, VT1.out])
 have HL5 : l5.length ≤ K + 1 := sum_len ht5 HX0.out HX1.out HV5.out
 clear hv5
 go_wp2_with fail
 have hb35 := bt hb34 hb5
 refine (sum_any w5 w5 _ _ q2 d (k.length - K) (d - K) _ _ TL2.out L3.out (by omega) (by omega) (hka.below hb35) (hkb.below hb35) (b0 _)).mono ?_
 rintro e w6 ⟨A6, c6, l6, rfl, hc6, ho6, ht6, hv6, hb6⟩
 have HV6 : Hid (val l6 = val (k.take K) + val (k.drop K)) := Hi (by rw [hv6, VT2.out])
 have HL6 : l6.length ≤ K + 1 := sum_len ht6 HY0.out HY1.out HV6.out
 clear hv6
 go_wp2_with fail
 refine (HP.out w6 w6 _ _ l5.length c5 l6.length c6 l5 l6 rfl rfl (by omega) hc5 hc6 (ho5.ws.below hb6) ho6.ws (b0 _)).mono ?_
 rintro e w7 ⟨A7, c7, l7, rfl, hc7, ho7, ht7, hv7, hb7⟩
 have HV7 : Hid (val l7 = (val (l.take K) + val (l.drop K)) * (val (k.take K) + val (k.drop K))) := Hi (by rw [hv7, HV5.out, HV6.out])
 clear hv7
 have hb67 := bt (bt hb5 hb6) hb7
 have hb07 : Below W0.heap.size W0 w7 := bt hb34 hb67
 have hg7 := hg0.below hb07
 have hw3 := (ho3.below (bt hb4 hb67)).ws
 have hw4 := (ho4.below hb67).ws
 have of3 := ho3.off_ hg0.lt
 have of4 := ho4.off_ (hg0.below hb3).lt
 have F1 : Hid (val (seg (zer N) 0 (N - 0)) + val l3 < BB (N - 0) ∧ l3.length ≤ N) := by
  have h := HKF.out
  rw [← HV3.out] at h
  have h1 : val l3 < BB N := by omega
  exact Hi ⟨fit_at (zer_length N) (Nat.zero_le _) (by rw [val_zer, BB_zero]; omega), top_len ht3 h1⟩
 go_wp2_with fail
 refine (addTo_any g 0 N N (zer N) A3 l3.length c3 l3 w7 rfl F1.out.2 (by omega) (by rw [zer_length]; omega) hg7 hw3 of3 F1.out.1).mono ?_
 rintro e w8 ⟨S8, rfl, hS8l, hS8w, hS8v, hb8, hO8⟩
 have HS8 : Hid (val (spl (zer N) 0 S8) = val l3 ∧ (spl (zer N) 0 S8).length = N) := Hi ⟨by rw [spl_add (by rw [zer_length]; omega) hS8v, val_zer, BB_zero]; omega, by rw [spl_length (by rw [zer_length]; omega), zer_length]⟩
 clear hS8l hS8w hS8v
 have F2 : Hid (val (seg (spl (zer N) 0 S8) (2 * K) (N - 2 * K)) + val l4 < BB (N - 2 * K) ∧ l4.length ≤ N - 2 * K) := by
  have h := HKF.out
  have h1 : val (spl (zer N) 0 S8) + BB (2 * K) * val l4 < BB N := by rw [HS8.out.1, HV3.out, HV4.out]; omega
  have h2 := fit_at HS8.out.2 (Nat.le_of_lt hK3) h1
  exact Hi ⟨h2, top_len ht4 (by omega)⟩
 go_wp2_with fail
 refine (addTo_any g (2 * K) (N - 2 * K) (N - 2 * K) (spl (zer N) 0 S8) A4 l4.length c4 l4 w8 rfl F2.out.2 (by omega) (by rw [HS8.out.2]; omega) hb8 (hw4.only hO8 of4) of4 F2.out.1).mono ?_
 rintro e w9 ⟨S9, rfl, hS9l, hS9w, hS9v, hb9, hO9⟩
 have HS9 : Hid (val (spl (spl (zer N) 0 S8) (2 * K) S9) = val l3 + BB (2 * K) * val l4 ∧ (spl (spl (zer N) 0 S8) (2 * K) S9).length = N) := Hi ⟨by rw [spl_add (by rw [HS8.out.2]; omega) hS9v, HS8.out.1], by rw [spl_length (by rw [HS8.out.2]; omega), HS8.out.2]⟩
 clear hS9l hS9w hS9v
 generalize spl (spl (zer N) 0 S8) (2 * K) S9 = T9 at *
 have hO79 := hO8.trans hO9
 have hw7 := ho7.ws.only hO79 (ho7.off_ (hg0.below (bt hb34 (bt hb5 hb6))).lt)
 have hw39 := hw3.only hO79 of3
 have hw49 := hw4.only hO79 of4
 have M1 : Hid (val l3 ≤ val l7) := Hi (by rw [HV3.out, HV7.out]; exact Nat.mul_le_mul (Nat.le_add_right _ _) (Nat.le_add_right _ _))
 have M2 : Hid (val l4 ≤ val l7 - val l3) := Hi (by
  rw [HV3.out, HV4.out, HV7.out, Nat.add_mul, Nat.mul_add, Nat.mul_add]
  omega)
 have sz9 : w9.heap.size ≤ w9.heap.size := Nat.le_refl _
 have L7 : Hid (l3.length ≤ l7.length ∧ l7.length ≤ 4000000) := Hi ⟨len_le ht3 hw7.1 M1.out, Nat.le_trans (top_len (m := 2 * (K + 1)) ht7 (by
  have a1 := val_lt ho5.ws.1
  have a2 := val_lt ho6.ws.1
  have a3 := BB_mono HL5
  have a4 := BB_mono HL6
  rw [HV7.out, ← HV5.out, ← HV6.out, show 2 * (K + 1) = (K + 1) + (K + 1) by omega, BB_add]
  exact Nat.mul_lt_mul'' (Nat.lt_of_lt_of_le a1 a3) (Nat.lt_of_lt_of_le a2 a4))) (by omega)⟩
 have tok1 : True := trivial
 have HKF3 : ∀ v : Nat, v = val l7 - val l3 - val l4 → val T9 + BB K * v = val l * val k := fun v h => by
  have e := HKF.out.1
  rw [h, HS9.out.1, HV3.out, HV4.out, HV7.out]
  exact e
 have HK3 := Hi HKF3
 clear HKF3
 go_wp2_with fail
 go_region_held3 (fun W => w9.heap.size ≤ W.heap.size) (first | assumption | exact Nat.le_refl _ | exact sz9)
  (first
   | (go_at_call 88; have _t := tok1; refine (difference_any w9 _ A7 A3 l7.length c7 l3.length c3 l7 l3 rfl rfl L7.out.1 L7.out.2 M1.out (hw7.below (bd (b0 _) _)) (hw39.below (bd (b0 _) _)) (bd (b0 _) _)).mono ?_; rintro e w10 ⟨A10, c10, l10, rfl, hc10, ho10, ht10, hv10, hb10⟩; clear tok1 _t; have HV10 := Hi hv10; clear hv10; have sz10 : w9.heap.size ≤ w10.heap.size := hb10.size; have L10 : Hid (l4.length ≤ l10.length ∧ l10.length ≤ 4000000) := Hi ⟨len_le ht4 ho10.ws.1 (by rw [HV10.out]; exact M2.out), Nat.le_trans (len_le ht10 hw7.1 (by rw [HV10.out]; omega)) L7.out.2⟩)
   | (go_at_call 88; refine (difference_any w10 w10 A10 A4 l10.length c10 l4.length c4 l10 l4 rfl rfl L10.out.1 L10.out.2 (by rw [HV10.out]; exact M2.out) ho10.ws (hw49.below hb10) (b0 _)).mono ?_; rintro e w11 ⟨A11, c11, l11, rfl, hc11, ho11, ht11, hv11, hb11⟩; have HV11 : Hid (val T9 + BB K * val l11 = val l * val k) := Hi (HK3.out _ (by rw [hv11, HV10.out])); clear hv11; have sz11 : w9.heap.size ≤ w11.heap.size := Nat.le_trans hb10.size hb11.size; have F3 : Hid (val (seg T9 K (N - K)) + val l11 < BB (N - K) ∧ l11.length ≤ N - K) := Hi (have h := fit_at HS9.out.2 (Nat.le_of_lt hKN) (by rw [HV11.out]; exact HKF.out.2); ⟨h, top_len ht11 (by omega)⟩); have hb911 := bt hb10 hb11)
   | (go_at_call 180; refine (addTo_any g K (N - K) (N - K) T9 A11 l11.length c11 l11 w11 rfl F3.out.2 (by omega) (by rw [HS9.out.2]; omega) (hb9.below hb911) ho11.ws (ho11.off_ (hb9.below hb10).lt) F3.out.1).mono ?_; rintro e w12 ⟨S12, rfl, hS12l, hS12w, hS12v, hb12, hO12⟩; have HS12 : Hid (val (spl T9 K S12) = val l * val k ∧ (spl T9 K S12).length = N) := Hi ⟨by rw [spl_add (by rw [HS9.out.2]; omega) hS12v, HV11.out], by rw [spl_length (by rw [HS9.out.2]; omega), HS9.out.2]⟩; have sz12 : w9.heap.size ≤ w12.heap.size := Nat.le_trans (Nat.le_trans hb10.size hb11.size) hO12.size; clear hS12l hS12w hS12v))
 go_wp2_with fail
 go_end0
 exact ⟨_, rfl, HS12.out.2, HS12.out.1, hb12, (((Only.mono (bt bd2 hb07)).trans hO79).below hb911).trans hO12⟩
open Go.RowKit
variable {A : Option Addr} {K N b g i o off r : Nat} {L S k l : List Nat} {w : World}
theorem product_step_ge (M : Nat) (hP : ProdOk M) (a w : World) (A B : Option Addr) (c d : Nat) (l k : List Nat) (hM : l.length + k.length ≤ M) (hM2 : M ≤ 2000000) (hkl : k.length ≤ l.length) (h48 : 48 < k.length) (hc : l.length ≤ c) (hd : k.length ≤ d) (hl : WS w A l) (hk : WS w B k) (hw : Below a.heap.size a w) :
  Calls Tryz.prog 101 #[.slice A l.length c, .slice B k.length d] w (Res a (val l * val k)) := by
 have hP' : ProdOk (l.length + k.length) := fun a w A B n c m d l' k' e1 e2 hlt => hP a w A B n c m d l' k' e1 e2 (by omega)
 have HP := Hi hP'
 clear hP hP'
 have hne : decide (l.length < k.length) = false := by simp; omega
 have hmk := fun W => run_mk ((l.length : Int) + (k.length : Int)) (l.length + k.length) (by simp) (by omega) W
 have hz : ((k.length : Int) == 0) = false := beq_eq_false_iff_ne.2 (by omega)
 have hle : decide ((k.length : Int) ≤ 48) = false := by simp; omega
 have hll : l.length ≤ 2000000 := by omega
 by_cases h2 : 2 * k.length ≤ l.length + 1
 ·have h2i : decide (2 * (k.length : Int) ≤ (l.length : Int) + 1) = true := by simp; omega
  go_enter Tryz.func101, Tryz.ntmps101
  go_wp2_with fail
  refine (byPieces_any w.heap.size (l.length + k.length) A B c d l k _ rfl (by omega) h2 (by omega) (by omega) hc hd HP.out (Blk.new w _ (zer_lt _)) (hl.below (ba (b0 _) _)) (hk.below (ba (b0 _) _)) (hl.off (Nat.le_refl _)) (hk.off (Nat.le_refl _))).mono ?_
  exact m7ad9f
 ·have h2i : decide (2 * (k.length : Int) ≤ (l.length : Int) + 1) = false := by simp; omega
  go_enter Tryz.func101, Tryz.ntmps101
  go_wp2_with fail
  refine (byHalves_any w.heap.size (l.length + k.length) A B c d l k _ rfl h48 (by omega) hkl (by omega) hc hd HP.out (Blk.new w _ (zer_lt _)) (hl.below (ba (b0 _) _)) (hk.below (ba (b0 _) _)) (hl.off (Nat.le_refl _)) (hk.off (Nat.le_refl _))).mono ?_
  exact m7ad9f
theorem m19fae {P : Prop} (h : P := by
 rintro e w1 ⟨S, rfl, hS, hv, hb, hO⟩
 have HS := Hi hS
 have HV := Hi hv
 clear hS hv
 go_wp2_with fail
 refine (trim_own a _ w.heap.size (k.length + l.length) (k.length + l.length) S (val k * val l) (by omega) (Nat.le_refl _) hw.size hb (by rw [HS.out]; omega) (by rw [← HS.out, List.take_length]; exact HV.out) (bt hw (bo (b0 w) ((Only.mono (ba (b0 _) _)).trans hO) (Nat.le_refl _)))).mono ?_
 rintro e w2 h
 exact mae45d) : P := h
theorem product_step_lt (M : Nat) (hP : ProdOk M) (a w : World) (A B : Option Addr) (c d : Nat) (l k : List Nat) (hM : l.length + k.length ≤ M) (hM2 : M ≤ 2000000) (hkl : l.length < k.length) (h48 : 48 < l.length) (hc : l.length ≤ c) (hd : k.length ≤ d) (hl : WS w A l) (hk : WS w B k) (hw : Below a.heap.size a w) :
  Calls Tryz.prog 101 #[.slice A l.length c, .slice B k.length d] w (Res a (val l * val k)) := by
 have hP' : ProdOk (k.length + l.length) := fun a w A B n c m d l' k' e1 e2 hlt => hP a w A B n c m d l' k' e1 e2 (by omega)
 have HP := Hi hP'
 clear hP hP'
 have hne : decide (l.length < k.length) = true := by simp; omega
 have hmk := fun W => run_mk ((k.length : Int) + (l.length : Int)) (k.length + l.length) (by simp) (by omega) W
 have hz : ((l.length : Int) == 0) = false := beq_eq_false_iff_ne.2 (by omega)
 have hle : decide ((l.length : Int) ≤ 48) = false := by simp; omega
 have hll : k.length ≤ 2000000 := by omega
 rw [Nat.mul_comm]
 by_cases h2 : 2 * l.length ≤ k.length + 1
 ·have h2i : decide (2 * (l.length : Int) ≤ (k.length : Int) + 1) = true := by simp; omega
  go_enter Tryz.func101, Tryz.ntmps101
  go_wp2_with fail
  refine (byPieces_any w.heap.size (k.length + l.length) B A d c k l _ rfl (by omega) h2 (by omega) (by omega) hd hc HP.out (Blk.new w _ (zer_lt _)) (hk.below (ba (b0 _) _)) (hl.below (ba (b0 _) _)) (hk.off (Nat.le_refl _)) (hl.off (Nat.le_refl _))).mono ?_
  exact m19fae
 ·have h2i : decide (2 * (l.length : Int) ≤ (k.length : Int) + 1) = false := by simp; omega
  go_enter Tryz.func101, Tryz.ntmps101
  go_wp2_with fail
  refine (byHalves_any w.heap.size (k.length + l.length) B A d c k l _ rfl h48 (by omega) (by omega) (by omega) hd hc HP.out (Blk.new w _ (zer_lt _)) (hk.below (ba (b0 _) _)) (hl.below (ba (b0 _) _)) (hk.off (Nat.le_refl _)) (hl.off (Nat.le_refl _))).mono ?_
  exact m19fae
theorem prodOk : ∀ M : Nat, M ≤ 2000001 → ProdOk M
 | 0, _ => fun _ _ _ _ _ _ _ _ _ _ _ _ h => by omega
 | M + 1, hM => fun a w A B n c m d l k e1 e2 hlt hc hd hl hk hw => by
  have ih := prodOk M (by omega)
  subst e1 e2
  rcases Nat.lt_or_ge l.length k.length with h | h
  ·rcases Nat.lt_or_ge 48 l.length with h48 | h48
   ·exact product_step_lt M ih a w A B c d l k (by omega) (by omega) h h48 hc hd hl hk hw
   ·exact product_lt a w A B l.length c k.length d l k rfl rfl h (by omega) (by omega) hl hk hw
  ·rcases Nat.lt_or_ge 48 k.length with h48 | h48
   ·exact product_step_ge M ih a w A B c d l k (by omega) (by omega) h h48 hc hd hl hk hw
   ·exact product_le a w A B l.length c k.length d l k rfl rfl h (by omega) (by omega) hl hk hw
theorem product_all (a w : World) (A B : Option Addr) (n c m d : Nat) (l k : List Nat) (hn : l.length = n) (hm : k.length = m) (hnm : n + m ≤ 2000000) (hc : n ≤ c) (hd : m ≤ d) (hl : WS w A l) (hk : WS w B k) (hw : Below a.heap.size a w) :
  Calls Tryz.prog 101 #[.slice A n c, .slice B m d] w (Res a (val l * val k)) :=
 prodOk (n + m + 1) (by omega) a w A B n c m d l k hn hm (by omega) hc hd hl hk hw
theorem Mul_all (a w : World) (na nb : Bool) (A B : Option Addr) (n c m d : Nat) (l k : List Nat) (p q : Bool) (hn : l.length = n) (hm : k.length = m) (hnm : n ≤ 900000) (hmm : m ≤ 900000) (hnc : n ≤ c) (hmd : m ≤ d) (hl : WS w A l) (hk : WS w B k) (hp : isB na l = p) (hq : isB nb k = q) (hw : Below a.heap.size a w) :
  Calls Tryz.prog 22 #[.agg #[.bool na, .slice A n c], .agg #[.bool nb, .slice B m d]] w (IRes a (ite0 (p && q) (zI na l * zI nb k))) := by
 subst hn hm
 have HP := Hi hp
 have HQ := Hi hq
 clear hp hq
 by_cases hpq : (p && q) = true
 ·obtain ⟨rfl, rfl⟩ : p = true ∧ q = true := by simpa using hpq
  clear hpq
  rw [show ite0 (true && true) (zI na l * zI nb k) = zI na l * zI nb k from rfl]
  go_enter Tryz.func22, Tryz.ntmps22
  go_wp2_with fail
  refine (both_any na nb A B _ c _ d l k true true _ rfl rfl (by omega) (by omega) (hl.below (ba (ba (ba (b0 _) _) _) _)) (hk.below (ba (ba (ba (b0 _) _) _) _)) HP.out HQ.out).mono ?_
  rintro e w1 ⟨rfl, hb⟩
  have hbx := (Box2.new ((w.alloc (.cells #[.bool na, .slice A l.length c] 24)).alloc (.cells #[.bool nb, .slice B k.length d] 24)) (.bool false) (.slice none 0 0)).below hb
  rw [World.size_alloc, World.size_alloc] at hbx
  have hby := (((Box2.new w (.bool na) (.slice A l.length c)).alloc (.cells #[.bool nb, .slice B k.length d] 24)).alloc (.cells #[.bool false, .slice none 0 0] 24)).below hb
  have hbz := ((Box2.new (w.alloc (.cells #[.bool na, .slice A l.length c] 24)) (.bool nb) (.slice B k.length d)).alloc (.cells #[.bool false, .slice none 0 0] 24)).below hb
  rw [World.size_alloc] at hbz
  obtain ⟨y0, y1⟩ := hby.cs
  obtain ⟨y2, y3⟩ := hbz.cs
  have hl1 : WS w1 A l := hl.below (bt (ba (ba (ba (b0 _) _) _) _) hb)
  have hk1 : WS w1 B k := hk.below (bt (ba (ba (ba (b0 _) _) _) _) hb)
  go_wp2_with fail
  go_region_held3 (fun W => W.cell? ⟨w.heap.size, 0, none⟩ = some (.bool na) ∧ W.cell? ⟨w.heap.size, 1, none⟩ = some (.slice A l.length c) ∧ W.cell? ⟨w.heap.size + 1, 0, none⟩ = some (.bool nb) ∧ W.cell? ⟨w.heap.size + 1, 1, none⟩ = some (.slice B k.length d))
   (first | exact ⟨y0, y1, y2, y3⟩ | exact ⟨z0, z1, z2, z3⟩ | exact ⟨v0, v1, v2, v3⟩ | exact ⟨s0, s1, s2, s3⟩ | go_keep)
   (first
    | (go_at_call 101; refine (product_all w1 _ A B l.length c k.length d l k rfl rfl (by omega) hnc hmd (hl1.below (bd (b0 _) _)) (hk1.below (bd (b0 _) _)) (bd (b0 _) _)).mono ?_; rintro e w2 ⟨A1, c1, l1, rfl, hlc1, ho1, ht1, hv1, hb2⟩; have hlen1 : l1.length ≤ l.length + k.length := top_len ht1 (by rw [hv1, BB_add]; exact Nat.mul_lt_mul_of_lt_of_lt (val_lt hl.1) (val_lt hk.1)); have HV1 := Hi hv1; clear hv1; have hbx2 := hbx.below hb2; have z0 := (hby.below hb2).cell0; have z1 := (hby.below hb2).cell1; have z2 := (hbz.below hb2).cell0; have z3 := (hbz.below hb2).cell1)
    | (go_at_call 89; refine (signed_res w1 _ (na != nb) A1 c1 l1 (by omega) hlc1 ?_ ht1 ?_).mono ?_; (first | exact ho1 | exact ho1.below (bd (b0 _) _)); (first | exact hb2 | exact bd hb2 _); rintro e w3 ⟨ng, A3, c3, l3, rfl, hc3, hl3, hB3, hz3, hb3⟩; have HZ3 := Hi hz3; have HB3 := Hi hB3; clear hz3 hB3; have hbx3 := hbx.below hb3; have x0 := hbx3.cell0; have x1 := hbx3.cell1; have f0 := hbx3.free 0; have f1 := hbx3.free 1; have v0 := (hby.below hb3).cell0; have v1 := (hby.below hb3).cell1; have v2 := (hbz.below hb3).cell0; have v3 := (hbz.below hb3).cell1; have hs := box2_far (hby.below hb3) (q := w.heap.size + 1 + 1) (by omega) (.bool ng) (.slice A3 l3.length c3); have ht := box2_far (hbz.below hb3) (q := w.heap.size + 1 + 1) (by omega) (.bool ng) (.slice A3 l3.length c3); have s0 := hs.cell0; have s1 := hs.cell1; have s2 := ht.cell0; have s3 := ht.cell1))
  obtain ⟨k0, k1, k2⟩ := hbx3.back (.bool ng) (.slice A3 l3.length c3)
  go_wp2_with fail
  refine bodyPost_ret (v := .agg #[.bool ng, .slice A3 l3.length c3]) (by simp [results, Tryz.results22, go_sem, k0, k2]) rfl ?_
  refine ires_store hw (bt (ba (ba (ba (b0 _) _) _) _) hb) (by have := hb.size; simp at this; omega) (by omega) hc3 hl3 HB3.out ?_ hb3
  rw [HZ3.out]
  exact zI_mul HV1.out
 ·have hf : (p && q) = false := by simpa using hpq
  rw [hf, show ite0 false (zI na l * zI nb k) = 0 from rfl]
  have HF := Hi hf
  clear hpq hf
  go_enter Tryz.func22, Tryz.ntmps22
  go_wp2_with fail
  refine (both_any na nb A B _ c _ d l k p q _ rfl rfl (by omega) (by omega) (hl.below (ba (ba (ba (b0 _) _) _) _)) (hk.below (ba (ba (ba (b0 _) _) _) _)) HP.out HQ.out).mono ?_
  rintro e w1 ⟨rfl, hb⟩
  rw [HF.out]
  have hbx := (Box2.new ((w.alloc (.cells #[.bool na, .slice A l.length c] 24)).alloc (.cells #[.bool nb, .slice B k.length d] 24)) (.bool false) (.slice none 0 0)).below hb
  rw [World.size_alloc, World.size_alloc] at hbx
  obtain ⟨q0, q1⟩ := hbx.cs
  have f0 := hbx.free 0
  have f1 := hbx.free 1
  obtain ⟨k0, k1, k2⟩ := hbx.back (.bool false) (.slice none 0 0)
  go_wp2_with fail
  refine bodyPost_ret (v := .agg #[.bool false, .slice none 0 0]) (by simp [results, Tryz.results22, go_sem, k0, k2]) rfl ?_
  exact mb4718
end Go.Proofs.YtgljdfblgpdaaaaGreatDoor
