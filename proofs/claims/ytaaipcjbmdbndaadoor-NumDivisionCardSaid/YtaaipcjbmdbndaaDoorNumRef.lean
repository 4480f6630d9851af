/- The specification of num: its small functions. -/
import Derived.Test.YtaaipcjbmdbndaaDoorNumOf
import Derived.Test.YtaaipcjbmdbndaaDoorNumInt2
import Derived.Deep.AppendLies
import Derived.OwnWalk
namespace Go.Proofs.YtaaipcjbmdbndaaDoor
open Go.RowKit

set_option maxHeartbeats 400000 in
theorem RIs_any (neg : Bool) (A : Option Addr) (n c : Nat) (l : List Nat) (w : World) (hn : l.length = n) (hm : n ≤ 4000000) (hws : WS w A l) :
    Calls Tryd.prog 16 #[.agg #[.bool neg, .slice A n c]] w fun e w' => e = .returned (.bool (isB neg l)) ∧ Below w.heap.size w w' := by
  subst hn
  by_cases h0 : l.length = 0
  · have e1 : isB neg l = !neg := by unfold isB; rw [if_pos h0]
    have E1 := Lib.hid e1
    clear e1
    rw [h0]
    clear h0
    go_enter Tryd.func16, Tryd.ntmps16
    go_wp2
    go_ret
    exact ⟨ret_bool E1.out.symm, (Below.refl _ _).alloc (Nat.le_refl _) _⟩
  · obtain ⟨b, off, rfl, hlt, hc⟩ := hws.at_ (by omega)
    have e1 : isB neg l = (((gd l (l.length - 1) : Nat) : Int) != 0) := by unfold isB; rw [if_neg h0]
    have E1 := Lib.hid e1
    have hc1 := hc (l.length - 1) (by omega)
    have hz : ((l.length : Int) == 0) = false := beq_eq_false_iff_ne.2 (by omega)
    have hl1 : 1 ≤ (l.length : Int) := by omega
    have hx := hws.lt (l.length - 1)
    clear e1 hc
    generalize hl : gd l (l.length - 1) = x at *
    clear hl
    go_enter Tryd.func16, Tryd.ntmps16
    go_wp2
    go_ret
    exact ⟨ret_bool E1.out.symm, (Below.refl _ _).alloc (Nat.le_refl _) _⟩


set_option maxHeartbeats 400000 in
theorem Rtrim_any (A : Option Addr) (n c : Nat) (l : List Nat) (w : World) (hn : l.length = n) (hm : n ≤ 4000000) (hnc : n ≤ c) (hws : WS w A l) :
    Calls Tryd.prog 45 #[.slice A n c] w (TrimP A n c l w) := by
  subst hn
  go_enter Tryd.func45, Tryd.ntmps45
  go_wp2
  go_loop [3] (fun n => ∃ k : Nat, k ≤ l.length ∧ n = .int .i64 k ∧ ∀ j, k ≤ j → gd l j = 0) (fun n => (intOf n).toNat)
  case atStart => exact ⟨l.length, Nat.le_refl _, rfl, fun j hj => gd_end hj⟩
  case round =>
    obtain ⟨k, hk, rfl, hz⟩ := hrel
    have HZ := Lib.hid hz
    clear hz
    rcases Nat.eq_zero_or_pos k with rfl | h0
    · go_wp2
      go_ret
      exact ⟨⟨0, by omega, rfl, fun h => absurd h (by omega), HZ.out⟩, rfl⟩
    · obtain ⟨b, off, rfl, hlt, hc⟩ := hws.at_ (by omega)
      have hc1 := hc (k - 1) (by omega)
      have hx2 := hws.lt (k - 1)
      clear hc
      by_cases hx0 : gd l (k - 1) = 0
      · have H0 := Lib.hid hx0
        rw [hx0] at hc1
        clear hx0
        go_wp2
        go_round
        case rel =>
          refine ⟨k - 1, by omega, by go_num, fun j hj => ?_⟩
          rcases Nat.lt_or_ge j k with h1 | h1
          · have : j = k - 1 := by omega
            rw [this]; exact H0.out
          · exact HZ.out j h1
        case measure => simp [intOf]; omega
      · have H0 := Lib.hid hx0
        have hz1 : (((gd l (k - 1) : Nat) : Int) == 0) = false := beq_eq_false_iff_ne.2 (by omega)
        clear hx0
        go_wp2
        go_ret
        exact ⟨⟨k, by omega, rfl, fun _ => H0.out, HZ.out⟩, rfl⟩


set_option maxHeartbeats 400000 in
theorem Rword_any (A : Option Addr) (n c : Nat) (i : Int) (l : List Nat) (w : World) (hn : l.length = n) (hm : n ≤ 4000000) (hi : 0 ≤ i) (hi2 : i ≤ 4000000) (hws : WS w A l) :
    Calls Tryd.prog 66 #[.slice A n c, .int .i64 i] w fun e w' => e = .returned (.int .u64 ((gd l i.toNat : Nat) : Int)) ∧ w = w' := by
  subst hn
  obtain ⟨j, rfl⟩ := Int.eq_ofNat_of_zero_le hi
  by_cases h0 : j < l.length
  · obtain ⟨b, off, rfl, hlt, hc⟩ := hws.at_ (by omega)
    have hc1 := hc j h0
    have hx := hws.lt j
    rw [Int.toNat_natCast]
    clear hc
    go_enter Tryd.func66, Tryd.ntmps66
    go_wp2
    go_ret
    exact ⟨rfl, rfl⟩
  · have e : gd l j = 0 := gd_end (by omega)
    have E := Lib.hid e
    clear e
    rw [Int.toNat_natCast, E.out]
    go_enter Tryd.func66, Tryd.ntmps66
    go_wp2
    go_ret
    exact ⟨rfl, rfl⟩


/-- A call returned the integer z in canonical form, wherever its words lie. -/
def WRes (a : World) (z : Int) (e : Ending) (w' : World) : Prop :=
  ∃ neg A c l, e = .returned (.agg #[.bool neg, .slice A l.length c]) ∧ l.length ≤ c ∧ WS w' A l ∧ isB neg l = true ∧ zI neg l = z ∧ Below a.heap.size a w'
theorem IRes.weak {a : World} {z : Int} {e : Ending} {w' : World} (h : IRes a z e w') : WRes a z e w' := by
  obtain ⟨neg, A, c, l, h1, h2, h3, h4, h5, h6⟩ := h
  exact ⟨neg, A, c, l, h1, h2, h3.ws, h4, h5, h6⟩
theorem info_v : ∃ i, Tryd.prog.info? 58 = some i ∧ i.zero = some (.int .u32 0) ∧ i.size = 1 ∧ i.bytes = 4 := by
  have h := info_w
  cases hi : Tryd.prog.info? 58 with
  | none => rw [hi] at h; cases h
  | some i => rw [hi] at h; simp only [Option.map_some, Option.some.injEq, Prod.mk.injEq] at h; exact ⟨i, rfl, h.1, h.2.1, h.2.2⟩
/-- What an append of words laid reads. -/
theorem ws_of_row {w : World} {base g n cap : Nat} {l : List Nat} (hl : ∀ x ∈ l, x < 4294967296) (hn : l.length = n) (h : w.ownsRow base 58 1 (.slice (some ⟨g, 0, none⟩) n cap) n (l.map fun (x : Nat) => Value.int .u32 (x : Int))) (h0 : 0 < n) (hg : g < w.heap.size) : n ≤ cap ∧ WS w (some ⟨g, 0, none⟩) l := by
  rcases h.2 with ⟨h1, _⟩ | ⟨g', cap', cur, h1, _, h2, h3, _, h4, h5⟩
  · cases h1
  · injection h1 with h1 h6 h7
    injection h1 with h1
    injection h1 with h1
    subst h1 h7
    refine ⟨h3, hl, fun _ => ⟨g, 0, rfl, hg, fun j hj => ?_⟩⟩
    rw [cell_of_row w g _ _ _ (0, 0) h2]
    have e1 : (cur.toList.take (n * 1))[j]? = some (.int .u32 ((gd l j : Nat) : Int)) := by
      rw [h5, List.getElem?_map, List.getElem?_eq_getElem hj, gd_at hj]; rfl
    rw [List.getElem?_take_of_lt (by omega)] at e1
    simpa using e1

theorem box2_only {W W' : World} {p g : Nat} {u v : Value} (h : Box2 W p u v) (hb : Only g W W') (hne : p ≠ g) : Box2 W' p u v := (hb.block p h.lt (fun e => hne (by injection e))).trans h
theorem one_words {l : List Nat} : ∀ u ∈ l.map (fun (x : Nat) => Value.int .u32 (x : Int)), u.oneCell' = true := fun u hu => by
  obtain ⟨x, _, rfl⟩ := List.mem_map.1 hu
  rfl
theorem own_empty (w : World) (o : Obj) : ((w.alloc o).alloc (.cells #[] 58)).ownsRow (w.heap.size + 1) 58 1 (.slice (some ⟨w.heap.size + 1, 0, none⟩) 0 0) 0 [] :=
  ⟨rfl, .inr ⟨w.heap.size + 1, 0, #[], rfl, Nat.le_refl _, by
    have h := heap_alloc_new (w.alloc o) (.cells #[] 58)
    rwa [World.size_alloc] at h, Nat.le_refl _, by simp [maxLen], rfl, rfl⟩⟩
theorem news_ws {w : World} {b off k : Nat} {l : List Nat} (hk : k ≤ l.length) (h : WS w (some ⟨b, off, none⟩) l) :
    ∀ j u, ((l.take k).map fun (x : Nat) => Value.int .u32 (x : Int))[j]? = some u → w.cell? ((⟨b, off, none⟩ : Addr).add j) = some u := fun j u hu => by
  have hj : j < (l.take k).length := by
    rcases Nat.lt_or_ge j (l.take k).length with h1 | h1
    · exact h1
    · rw [List.getElem?_eq_none (by simpa using h1)] at hu; cases hu
  have hjk : j < k := by simp at hj; omega
  have hjl : j < l.length := by omega
  obtain ⟨b', off', e, _, hc⟩ := h.at_ (by omega)
  injection e with e
  injection e with e1 e2
  subst e1 e2
  rw [List.getElem?_map, List.getElem?_eq_getElem hj] at hu
  have hadd : (⟨b, off, none⟩ : Addr).add j = ⟨b, off + j, none⟩ := by unfold Addr.add; split <;> simp_all
  rw [hadd, hc j hjl, gd_at hjl]
  simpa using hu

set_option maxRecDepth 100000 in
set_option maxHeartbeats 400000 in
theorem Rmade_any (a w : World) (neg : Bool) (A : Option Addr) (n c : Nat) (l : List Nat) (hn : l.length = n) (hm : n ≤ 4000000) (hnc : n ≤ c) (hl : WS w A l) (hw : Below a.heap.size a w) :
    Calls Tryd.prog 46 #[.bool neg, .slice A n c] w (WRes a (zI neg l)) := by
  subst hn
  obtain ⟨i0, hi0, hz0, hz1, hz2⟩ := info_v
  go_enter Tryd.func46, Tryd.ntmps46
  go_wp2_with fail
  refine (Rtrim_any A l.length c l _ rfl hm hnc (hl.below (ba (b0 _) _))).mono ?_
  rintro e w1 ⟨⟨k, hk, rfl, ht, hz⟩, rfl⟩
  rcases Nat.eq_zero_or_pos k with rfl | h0
  · have e0 : val l = 0 := val_zero_of l (fun j => hz j (Nat.zero_le _))
    go_wp2_with fail
    go_returns
    refine ⟨false, none, 0, [], rfl, Nat.le_refl _, WS.nil_ _ _, rfl, ?_, bt hw (ba (b0 _) _)⟩
    unfold zI; rw [e0]; cases neg <;> rfl
  · have hk0 : ((k : Int) == 0) = false := beq_eq_false_iff_ne.2 (by omega)
    have hlen : (l.take k).length = k := by simp; omega
    have hvt : val (l.take k) = val l := val_take_top l k hz
    have hTop : Top (l.take k) := fun _ => by rw [hlen, gd_take (by omega)]; exact ht h0
    have HT := Lib.hid hTop
    have HV := Lib.hid hvt
    clear ht hz hvt hTop
    obtain ⟨b, off, rfl, hlt, hc⟩ := hl.at_ (by omega)
    have HC := Lib.hid hc
    clear hc
    go_wp2_with (at_builtin; refine wpList_append_lies _ rfl (.tmp 12) (.tmp 13) _ rfl (w.heap.size + 1) 58 i0 _ 1 4 Tryd.underlying22 hi0 hz0 hz1 hz2 rfl (by omega) (.slice (some ⟨w.heap.size + 1, 0, none⟩) 0 0) 0 [] rfl (own_empty _ _) ⟨b, off, none⟩ k c ((l.take k).map fun (x : Nat) => Value.int .u32 (x : Int)) rfl (by simp; omega) (news_ws hk (hl.below (ba (ba (b0 _) _) _))) one_words h0 (by simp only [maxLen]; omega) (by omega) (by simp) _ rfl ?_; intro g cap w3 hown hgrow hat hlt3; have hO : Only (w.heap.size + 1) ((w.alloc (.cells #[.bool false, .slice none 0 0] 24)).alloc (.cells #[] 58)) w3 := hgrow; have hbx := box2_only ((Box2.new w (.bool false) (.slice none 0 0)).alloc (.cells #[] 58)) hO (by omega); have q0 := hbx.cell0; have q1 := hbx.cell1; have f0 := hbx.free 0; have f1 := hbx.free 1)
    rw [Nat.zero_add] at hown
    obtain ⟨hcap, hws⟩ := ws_of_row (words_take hl.1 k) hlen hown h0 hlt3
    obtain ⟨k0, k1, k2⟩ := hbx.back (.bool neg) (.slice (some ⟨g, 0, none⟩) k cap)
    refine bodyPost_ret (v := .agg #[.bool neg, .slice (some ⟨g, 0, none⟩) k cap]) (by simp [results, Tryd.results46, go_sem, k0, k2]) rfl ?_
    have hgne : g ≠ w.heap.size := by
      rcases hat with h | h
      · simp [Value.ownBlock] at h; omega
      · simp at h; omega
    have hs := hw.size
    refine ⟨neg, some ⟨g, 0, none⟩, cap, l.take k, by rw [hlen], by rw [hlen]; exact hcap, hws.two (fun _ b' o' e => by injection e with e; injection e with e1; omega) _ _, isB_of HT.out (fun h => by omega), ?_, b2 (bo (ba (ba hw _) _) hO (by omega)) hs _ _⟩
    unfold zI
    rw [HV.out]

/-- Words do not lie in a box of an integer. -/
theorem ws_off_box {W : World} {p : Nat} {u v : Value} {A : Option Addr} {l : List Nat} (h : Box2 W p u v) (hu : ∀ x : Nat, u ≠ .int .u32 (x : Int) ∧ v ≠ .int .u32 (x : Int)) (hl : WS W A l) : Off A l p := by
  intro h0 b off e
  obtain ⟨b', off', e', _, hc⟩ := hl.2 h0
  rw [e] at e'
  injection e' with e'
  injection e' with e1 e2
  subst e1 e2
  rintro rfl
  have h1 := hc 0 (List.length_pos_iff.2 h0)
  rw [Nat.add_zero, cell_of_row W _ off _ _ (0, 0) h] at h1
  match off, h1 with
  | 0, h1 => simp at h1; exact (hu _).1 h1
  | 1, h1 => simp at h1; exact (hu _).2 h1
  | k + 2, h1 => simp at h1

end Go.Proofs.YtaaipcjbmdbndaaDoor
