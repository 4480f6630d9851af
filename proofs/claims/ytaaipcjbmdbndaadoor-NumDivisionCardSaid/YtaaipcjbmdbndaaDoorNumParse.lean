/- Parse. -/
import Derived.Test.YtaaipcjbmdbndaaDoorNumWb
import Derived.Test.YtaaipcjbmdbndaaDoorNumExt
import Derived.Test.YtaaipcjbmdbndaaDoorNumInt3
import Derived.Test.YtaaipcjbmdbndaaDoorNumDivI
import Derived.Test.YtaaipcjbmdbndaaDoorShelf
import Derived.Outline
namespace Go.Proofs.YtaaipcjbmdbndaaDoor
open Go.RowKit Go.Shelf
attribute [local go_sem] Oper.semAt_some

/-- The sign and the digits of a text. -/
def pNeg (s : ByteArray) : Bool := Lib.hasPrefix s.data.toList [45]
def pDig (s : ByteArray) : ByteArray := ⟨(Lib.trimPrefix s.data.toList [45]).toArray⟩
theorem cut_any (s : ByteArray) (w : World) :
    Calls Tryd.prog 38 #[.string s, .string ⟨#[45]⟩] w fun e w' => e = .returned (.tuple #[.string (pDig s), .bool (pNeg s)]) ∧ w' = w := Tryd.strings_CutPrefix s ⟨#[45]⟩ w

set_option maxRecDepth 100000 in
set_option maxHeartbeats 400000 in
theorem tblocks_any (s : ByteArray) (w : World) :
    Calls Tryd.prog 40 #[.string s] w fun e w' => e = .returned (.func (.func 65) #[] #[.pointer (some ⟨w.heap.size, 0, none⟩)]) ∧ w' = w.alloc (.cells #[.string s] 9) := by
  go_enter Tryd.func40, Tryd.ntmps40
  go_wp2_with fail
  go_ret
  exact ⟨rfl, rfl⟩
set_option maxRecDepth 100000 in
set_option maxHeartbeats 400000 in
theorem wblocks_any (A : Option Addr) (n c : Nat) (w : World) :
    Calls Tryd.prog 47 #[.slice A n c] w fun e w' => e = .returned (.func (.func 67) #[] #[.pointer (some ⟨w.heap.size, 0, none⟩)]) ∧ w' = w.alloc (.cells #[.slice A n c] 22) := by
  go_enter Tryd.func47, Tryd.ntmps47
  go_wp2_with fail
  go_ret
  exact ⟨rfl, rfl⟩

theorem digs_is {t : ByteArray} (h : digs t = true) : t.data.toList ≠ [] ∧ ∀ c ∈ t.data.toList, isDg c := by
  unfold digs at h
  rw [Bool.and_eq_true, decide_eq_true_eq, decide_eq_true_eq] at h
  have hlen : t.data.toList.length = t.size := rfl
  refine ⟨fun e => h.1 (by rw [e, List.length_nil] at hlen; exact hlen.symm), fun c hc => ?_⟩
  obtain ⟨i, hi, rfl⟩ := List.getElem_of_mem hc
  have := h.2 i hi
  rw [byt_at hi] at this
  exact this

theorem blks_length : ∀ (f : Nat) (l : List UInt8), (blks f l).length ≤ f
  | 0, _ => by simp [blks]
  | f + 1, l => by
    unfold blks
    by_cases h : l = []
    · rw [if_pos h]; simp
    · rw [if_neg h, List.length_cons]
      have := blks_length f (l.drop 9)
      omega
theorem Box.free {W : World} {p : Nat} {v : Value} (h : Box W p v) (i : Nat) : W.frozen? ⟨p, i, none⟩ = false := by
  unfold Box at h
  simp [World.frozen?, h]
theorem Box.set_ {W : World} {p : Nat} {v : Value} (h : Box W p v) (x : Value) : Box (W.setCell ⟨p, 0, none⟩ x) p x := by
  unfold Box at h ⊢
  simp [World.setCell, Array.getElem?_modify, h]
theorem OwnR.only {base : Nat} {W W' : World} {v : Value} {l : List Nat} {q : Nat} (h : OwnR base W v l) (hO : Only q W W') (hq : q < base) : OwnR base W' v l :=
  ⟨h.1.kept hO (by
    cases hv : v.ownBlock with
    | none => exact .inl rfl
    | some k => exact .inr (fun e => by injection e with e; have := (h.1.lt k hv).1; omega)), h.2⟩
theorem only_putObj (W : World) (l : Nat) (o : Obj) : Only l W (W.putObj l o) := grownBy_putObj' W l o

theorem own_other {base p : Nat} {W W2 : World} {v u : Value} {l : List Nat} (h : OwnR base W v l) (hg : W.drew.grownBy W2 v.ownBlock) (hb : Box W p u) (hp : p < base) : Box W2 p u :=
  (hg.block p hb.lt (fun e => by have := (h.1.lt p e.symm).1; omega)).trans hb

/-- Between two rounds of Parse: the variable holds the number of the blocks that have come. -/
def PI (w : World) (p base : Nat) (pre : List (Nat × Nat)) (W : World) : Prop :=
  (∃ v l, Box W p v ∧ OwnR base W v l ∧ Top l ∧ val l = blkNum 0 pre ∧ l.length ≤ pre.length ∧ (l.length = 0 → v = .slice none 0 0)) ∧ Tens W ∧ Box2 W w.heap.size (.bool false) (.slice none 0 0) ∧ Below w.heap.size w W
theorem PI.only {w : World} {p base q : Nat} {pre : List (Nat × Nat)} {A B : World} (h : PI w p base pre A) (hO : Only q A B) (hq : q < base) (hqp : p ≠ q) (hqw : w.heap.size < q) (hg : 0 < w.heap.size) : PI w p base pre B := by
  obtain ⟨⟨v, l, h1, h2, h3, h4, h5, h50⟩, h6, h7, h8⟩ := h
  exact ⟨⟨v, l, h1.only hO hqp, h2.only hO hq, h3, h4, h5, h50⟩, h6.of_block (hO.block _ h6.lt (fun e => by injection e; omega)), box2_only h7 hO (by omega), bo h8 hO (by omega)⟩

theorem parse_step {w W w2 : World} {h T c : Nat} {pre : List (Nat × Nat)} {x : Nat × Nat} {v : Value} {A2 : Option Addr} {c2 : Nat} {k k2 : List Nat}
    (hh : h = w.heap.size + 3) (hlt : h + 2 ≤ W.heap.size) (hgT : 0 < w.heap.size) (hk : OwnR (h + 2) W v k) (hg : W.drew.grownBy w2 v.ownBlock) (hb2 : Box w2 (w.heap.size + 1) v) (hk2 : OwnR (h + 2) w2 (.slice A2 k2.length c2) k2)
    (hkT : Top k2) (hkv : val k2 = blkNum 0 (pre ++ [x])) (hN : blkNum 0 (pre ++ [x]) = val k * T + c) (hT : T < 4294967296) (hc : c < 4294967296) (hl : k.length ≤ pre.length) (h0 : k2.length = 0 → Value.slice A2 k2.length c2 = .slice none 0 0)
    (hTn : Tens W) (hr : Box2 W w.heap.size (.bool false) (.slice none 0 0)) (hb : Below w.heap.size w W) :
    ((w2.setCell ⟨w.heap.size + 1, 0, none⟩ (.slice A2 k2.length c2)).heap[h]? = W.heap[h]? ∧ (w2.setCell ⟨w.heap.size + 1, 0, none⟩ (.slice A2 k2.length c2)).heap[h + 1]? = W.heap[h + 1]?) ∧
    KpB (w.heap.size + 2) W (w2.setCell ⟨w.heap.size + 1, 0, none⟩ (.slice A2 k2.length c2)) ∧ PI w (w.heap.size + 1) (h + 2) (pre ++ [x]) (w2.setCell ⟨w.heap.size + 1, 0, none⟩ (.slice A2 k2.length c2)) := by
  have key : ∀ i, i ≠ w.heap.size + 1 → i < h + 2 → (w2.setCell ⟨w.heap.size + 1, 0, none⟩ (.slice A2 k2.length c2)).heap[i]? = W.heap[i]? := fun i hi hlt2 =>
    (Below.heap_setCell w2 ⟨w.heap.size + 1, 0, none⟩ _ i hi).trans (hg.block i (show i < W.heap.size by omega) (fun e => by have := (hk.1.lt i e.symm).1; omega))
  have hbs := hb.size
  refine ⟨⟨key _ (by omega) (by omega), key _ (by omega) (by omega)⟩, key _ (by omega) (by omega), ⟨_, k2, hb2.set_ _, ?_, hkT, hkv, ?_, h0⟩, hTn.of_block (key _ (by omega) (by omega)), (key _ (by omega) (by omega)).trans hr, ?_⟩
  · exact ⟨ownsRow_setCell_other hk2.1 (fun e => by have := (hk2.1.lt _ e).1; simp at this; omega) _, hk2.2⟩
  · have h1 : val k2 < BB (k.length + 1) := by
      have h2 := val_lt hk.2
      rw [hkv, hN, BB_succ]
      have h3 : val k + 1 ≤ BB k.length := h2
      have h4 := Nat.mul_le_mul_right 4294967296 h3
      have h5 := Nat.mul_le_mul_left (val k) (show T ≤ 4294967295 by omega)
      omega
    have := top_len hkT h1
    simp
    omega
  · exact ⟨hg.os.trans hb.os, hg.tape.trans hb.tape, hg.output.trans hb.output, by have := hg.size; simp [World.setCell] at this ⊢; omega, fun i hi => (key i (by omega) (by omega)).trans (hb.block i hi)⟩

theorem OwnR.ws {base : Nat} {W : World} {A : Option Addr} {c : Nat} {l : List Nat} (h : OwnR base W (.slice A l.length c) l) : WS W A l := by
  rcases Nat.eq_zero_or_pos l.length with h0 | h0
  · rw [List.eq_nil_of_length_eq_zero h0]; exact WS.nil_ _ _
  · obtain ⟨g, cap, e, _, _, _, hw, _⟩ := h.some_ h0
    injection e with e1 _ _
    rw [e1]; exact hw
/-- signed, of words wherever they lie. -/
def SgR (w : World) (ng : Bool) (l : List Nat) (e : Ending) (w' : World) : Prop :=
  ∃ n A c, e = .returned (.agg #[.bool n, .slice A l.length c]) ∧ WS w' A l ∧ isB n l = true ∧ zI n l = zI ng l ∧ Below w.heap.size w w'
theorem signed_ws (ng : Bool) (A : Option Addr) (c : Nat) (l : List Nat) (w : World) (hm : l.length ≤ 4000000) (hT : Top l) (hl : WS w A l) :
    Calls Tryd.prog 42 #[.bool ng, .slice A l.length c] w (SgR w ng l) := by
  refine (signed_any ng A l.length c w hm).mono fun e w' ⟨he, hb⟩ => ?_
  by_cases h0 : l.length = 0
  · rw [if_pos h0] at he
    have hn := List.eq_nil_of_length_eq_zero h0
    subst hn
    exact ⟨false, none, 0, he, WS.nil_ _ _, rfl, by simp [zI_nil], hb⟩
  · rw [if_neg h0] at he
    exact ⟨ng, A, c, he, hl.below hb, isB_of hT (fun h => absurd h h0), rfl, hb⟩

/-- What Parse returns. -/
def PRes (a : World) (z : Int) (e : Ending) (w' : World) : Prop :=
  ∃ n A c l, e = .returned (.tuple #[.agg #[.bool n, .slice A l.length c], .int .i64 0]) ∧ WS w' A l ∧ isB n l = true ∧ zI n l = z ∧ Below a.heap.size a w'

set_option maxRecDepth 100000 in
set_option maxHeartbeats 2000000 in
theorem Parse_okA (w : World) (s t : ByteArray) (ng : Bool) (ht : pDig s = t) (hng : pNeg s = ng) (hd : digs t = true) (hpos : 0 < t.size) (h48i : (t[0].toNat : Int) = 48) (hs : (!s.toList == [48]) = false) (hlen : t.size ≤ 20000) (hT : Tens w) (z : Int) (hz : z = if ng then -(dnum t.data.toList : Int) else (dnum t.data.toList : Int)) :
    Calls Tryd.prog 11 #[.string s] w (PRes w z) := by
  have HZZ := Lib.hid hz
  clear hz
  obtain ⟨hne, hdg⟩ := digs_is hd
  have hposi : (0 : Int) < (t.size : Int) := by omega
  have hleni : ¬ (20000 : Int) < (t.size : Int) := by omega
  have HDG := Lib.hid hdg
  have HT := Lib.hid hT
  have hgT := hT.lt
  clear hne hdg hT
  refine (callsIn_wide (n := 5)).1 ?_
  refine callsIn_of_wp_marks Tryd.func11 rfl trivial ?_ rfl
  simp only [Tryd.ntmps11, List.size_toArray, List.length_cons, List.length_nil, Nat.reduceAdd, Nat.reduceSub, Array.replicate_succ, Array.replicate_zero, List.push_toArray, List.append_toArray, List.nil_append, List.cons_append]
  gi_wp2
  refine ⟨trivial, ?_⟩
  refine (callsIn_wide.2 (cut_any s _)).mono ?_
  rintro e w1 ⟨rfl, rfl⟩
  rw [ht, hng]
  gi_wp2
  refine ⟨trivial, ?_⟩
  refine (callsIn_wide.2 (isDigits_any t _ (by omega))).mono ?_
  rintro e w1 ⟨rfl, rfl⟩
  rw [hd]
  gi_wp2
  refine ⟨trivial, ?_⟩
  refine (callsIn_wide.2 (tblocks_any t _)).mono ?_
  rintro e w1 ⟨rfl, rfl⟩
  obtain ⟨W0, hW0⟩ : ∃ W0, W0 = (((w.alloc (.cells #[.bool false, .slice none 0 0] 24)).alloc (.cells #[.slice none 0 0] 22)).alloc (.cells #[.string t] 9)) := ⟨_, rfl⟩
  have hsz : W0.heap.size = w.heap.size + 3 := by rw [hW0]; simp
  have hbw : Below w.heap.size w W0 := by rw [hW0]; exact ba (ba (ba (b0 _) _) _) _
  have hx0 : Box2 W0 w.heap.size (.bool false) (.slice none 0 0) := by rw [hW0]; exact ((Box2.new w _ _).alloc _).alloc _
  have hx1 : Box W0 (w.heap.size + 1) (.slice none 0 0) := by
    rw [hW0]
    have h := (Box.new (w.alloc (.cells #[.bool false, .slice none 0 0] 24)) (.slice none 0 0)).below (ba (b0 _) (.cells #[.string t] 9))
    rwa [World.size_alloc] at h
  have hx2 : SBox W0 (w.heap.size + 2) (.string t) := by
    rw [hW0]
    have h := SBox.new ((w.alloc (.cells #[.bool false, .slice none 0 0] 24)).alloc (.cells #[.slice none 0 0] 22)) (.string t)
    rwa [World.size_alloc, World.size_alloc] at h
  rw [← hW0, show ((w.alloc (.cells #[.bool false, .slice none 0 0] 24)).alloc (.cells #[.slice none 0 0] 22)).heap.size = w.heap.size + 2 from by simp]
  clear hW0
  gi_wp2
  refine range_all rfl (by decide) (gf := 65) (lb := #[.pointer (some ⟨w.heap.size + 2, 0, none⟩)]) rfl trivial (enters_of Tryd.func65 (by kernel_rfl) rfl)
    (encs := fun x : Nat × Nat => #[.int .u32 (x.1 : Int), .int .i64 (x.2 : Int)]) (Tn := Only (w.heap.size + 2)) (Kp := KpB (w.heap.size + 2)) (xs := blks t.size t.data.toList)
    (fun W hW _ => tb_gives 4 (by decide) (w.heap.size + 2) t (by omega) HDG.out W (hx2.below hW)) (fun _ => rfl)
    (fun A B hlt hO => ⟨hO.block _ (by omega) (fun e => by injection e; omega), hO.block _ (by omega) (fun e => by injection e; omega)⟩)
    (fun h k => Eq.trans k h) (fun W o => World.putObj_heap_other (by omega))
    (PI w (w.heap.size + 1) (W0.heap.size + 2)) (fun s A B h hO => h.only hO (by omega) (by omega) (by omega) hgT)
    (fun s A o h hlt => h.only (only_putObj _ _ _) (by omega) (by omega) (by omega) hgT)
    (fun W hb => ⟨⟨.slice none 0 0, [], hx1.below hb, OwnR.nil _ _, top_nil, rfl, Nat.le_refl _, fun _ => rfl⟩, HT.out.below (bt hbw hb), hx0.below hb, bt hbw hb⟩) ?a1 ?assign ?body ?done
  case assign =>
    intro l x W K hK
    gi_wp2
    exact hK
  case body =>
    rintro l pre x suf hxs W ⟨⟨v, k, hv, hk, hkT, hkv, hkl, hk0⟩, hTn, hr, hb⟩ hlt
    have hxm : x ∈ blks t.size t.data.toList := by rw [hxs]; simp
    obtain ⟨hx1, hx9, hx0⟩ := blks_lt _ _ HDG.out x hxm
    have hp9 : 10 ^ x.2 ≤ 10 ^ 9 := Nat.pow_le_pow_right (by decide) hx9
    have hpp : 0 < 10 ^ x.2 := Nat.pow_pos (by decide)
    have hlenx : k.length ≤ 20000 := by
      have := blks_length t.size t.data.toList
      rw [hxs] at this
      simp at this
      omega
    have htc := hTn x.2 hx9
    obtain ⟨T, hTT⟩ : ∃ T, T = 10 ^ x.2 := ⟨_, rfl⟩
    have HTT := Lib.hid hTT
    rw [← hTT] at htc hp9 hpp hx1
    clear hTT
    have hc6 := hv.cell
    have hf6 := hv.free 0
    have hmx : Tryd.prog.follows .mixedOrders = true := by kernel_rfl
    have hx9i : (x.2 : Int) ≤ 9 := by omega
    have P1 : Hid (T < 4294967296) := Lib.hid (by omega)
    have P2 : Hid (x.1 < 4294967296) := Lib.hid (by omega)
    have P3 := Lib.hid hpp
    have P4 : Hid (k.length ≤ 1000000) := Lib.hid (by omega)
    have P5 : Hid (blkNum 0 (pre ++ [x]) = val k * T + x.1) := Lib.hid (by rw [blkNum_append, ← hkv, HTT.out]; rfl)
    have P6 : Hid (W0.heap.size + 2 ≤ W.heap.size) := Lib.hid (by omega)
    have HKV := Lib.hid hkv
    have HSZ : Hid (w.heap.size + 1 < W0.heap.size + 2) := Lib.hid (by omega)
    have HSZ2 := Lib.hid hsz
    clear hsz hlt
    clear hp9 hpp hx1 hlenx hkv hxs hxm
    gi_wp2
    gi_region_with_o (refine ⟨trivial, ?_⟩; gi_at_call 41; refine (CallsIn.inRound l (callsIn_wide.2 (extend_any (W0.heap.size + 2) _ v k T x.1 (blkNum 0 (pre ++ [x])) (hk.below (bw (b0 _))) hk0 P4.out hkT P3.out P1.out P2.out P6.out P5.out))).mono ?_; rintro e w2 ⟨v2, k2, rfl, hk2, hkT2, hkv2, hgr2, hk02⟩; have hb2 := own_other hk hgr2 hv HSZ.out; have hc62 := hb2.cell; have hf62 := hb2.free 0; have HKV2 := Lib.hid hkv2; have HK02 := Lib.hid hk02; clear hkv2 hk02; obtain ⟨A2, c2, rfl⟩ := hk2.slice)
    all_goals gi_wp2
    all_goals exact parse_step HSZ2.out P6.out hgT hk hgr2 hb2 hk2 hkT2 HKV2.out P5.out P1.out P2.out hkl HK02.out hTn hr hb
  case done =>
    rintro W ⟨⟨v, k, hv, hk, hkT, hkv, hkl, hk0⟩, hTn, hr, hb⟩ hD
    obtain ⟨A, c, rfl⟩ := hk.slice
    have hws := hk.ws
    have hcv := hv.cell
    have P4 : k.length ≤ 4000000 := by
      have := blks_length t.size t.data.toList
      omega
    have HKV := Lib.hid hkv
    have HSZ := Lib.hid hsz
    clear hkv hkl hk0 hk hsz
    gi_wp2
    refine ⟨trivial, ?_⟩
    refine (callsIn_wide.2 (signed_ws ng A c k W P4 hkT hws)).mono ?_
    rintro e w2 ⟨n2, A2, c2, rfl, hl2, hB2, hz2, hb2⟩
    have HB2 := Lib.hid hB2
    have HZ2 := Lib.hid hz2
    clear hB2 hz2
    have hbx := hr.below hb2
    have x0 := hbx.cell0
    have x1 := hbx.cell1
    have f0 := hbx.free 0
    have f1 := hbx.free 1
    obtain ⟨k0, k1, k2⟩ := hbx.back (.bool n2) (.slice A2 k.length c2)
    gi_wp2
    obtain ⟨W3, hW3⟩ : ∃ W3, W3 = (w2.setCell ⟨w.heap.size, 0, none⟩ (.bool n2)).setCell ⟨w.heap.size, 1, none⟩ (.slice A2 k.length c2) := ⟨_, rfl⟩
    have hbx3 : Box2 W3 w.heap.size (.bool n2) (.slice A2 k.length c2) := by rw [hW3]; exact (hbx.set0 _).set1 _
    have hoff := ws_off_box hbx (by simp) hl2
    have hl3 : WS W3 A2 k := by rw [hW3]; exact hl2.two hoff _ _
    have hD2 : w2.heap[W0.heap.size]? = some (.deferred (some [])) := (hb2.block _ (Array.getElem?_eq_some_iff.1 hD).1).trans hD
    have hD3 : W3.heap[W0.heap.size]? = some (.deferred (some [])) := by
      rw [hW3, Below.heap_setCell _ _ _ _ (by show _ ≠ w.heap.size; have := HSZ.out; omega), Below.heap_setCell _ _ _ _ (by show _ ≠ w.heap.size; have := HSZ.out; omega)]
      exact hD2
    have hb3 : Below w.heap.size w W3 := by rw [hW3]; exact b2 (bt hb hb2) (Nat.le_refl _) _ _
    rw [← hW3]
    have hO := only_putObj W3 W0.heap.size (.deferred none)
    have hbx4 := box2_only hbx3 hO (by have := HSZ.out; omega)
    have q0 := hbx4.cell0
    have q1 := hbx4.cell1
    have hl4 : WS (W3.putObj W0.heap.size (.deferred none)) A2 k := hl3.only hO (fun h b o e => by
      obtain ⟨b', o', e', hlt', hc'⟩ := hl3.2 h
      rw [e] at e'
      injection e' with e'
      injection e' with e1 _
      subst e1
      rintro rfl
      have h2 := hc' 0 (List.length_pos_iff.2 h)
      simp [World.cell?, hD3] at h2)
    refine ⟨by simp, .inl ⟨_, _, rfl, run_takeDeferred hD3, ?_⟩⟩
    refine ⟨.tuple #[.agg #[.bool n2, .slice A2 k.length c2], .int .i64 0], by simp [results, Tryd.results11, go_sem, q0, q1], n2, A2, c2, k, rfl, hl4, HB2.out, ?_, bo hb3 hO (by have := HSZ.out; omega)⟩
    have hval : val k = dnum t.data.toList := by
      have e := blkNum_all t.size t.data.toList 0 (Nat.le_refl _)
      rw [HKV.out, e, Nat.zero_mul, Nat.zero_add]
    rw [HZ2.out, HZZ.out, ← hval]
    rfl

set_option maxRecDepth 100000 in
set_option maxHeartbeats 2000000 in
theorem Parse_okB (w : World) (s t : ByteArray) (ng : Bool) (ht : pDig s = t) (hng : pNeg s = ng) (hd : digs t = true) (hpos : 0 < t.size) (h48i : ((t[0].toNat : Int) == 48) = false) (hlen : t.size ≤ 20000) (hT : Tens w) (z : Int) (hz : z = if ng then -(dnum t.data.toList : Int) else (dnum t.data.toList : Int)) :
    Calls Tryd.prog 11 #[.string s] w (PRes w z) := by
  have HZZ := Lib.hid hz
  clear hz
  obtain ⟨hne, hdg⟩ := digs_is hd
  have hposi : (0 : Int) < (t.size : Int) := by omega
  have hleni : ¬ (20000 : Int) < (t.size : Int) := by omega
  have HDG := Lib.hid hdg
  have HT := Lib.hid hT
  have hgT := hT.lt
  clear hne hdg hT
  refine (callsIn_wide (n := 5)).1 ?_
  refine callsIn_of_wp_marks Tryd.func11 rfl trivial ?_ rfl
  simp only [Tryd.ntmps11, List.size_toArray, List.length_cons, List.length_nil, Nat.reduceAdd, Nat.reduceSub, Array.replicate_succ, Array.replicate_zero, List.push_toArray, List.append_toArray, List.nil_append, List.cons_append]
  gi_wp2
  refine ⟨trivial, ?_⟩
  refine (callsIn_wide.2 (cut_any s _)).mono ?_
  rintro e w1 ⟨rfl, rfl⟩
  rw [ht, hng]
  gi_wp2
  refine ⟨trivial, ?_⟩
  refine (callsIn_wide.2 (isDigits_any t _ (by omega))).mono ?_
  rintro e w1 ⟨rfl, rfl⟩
  rw [hd]
  gi_wp2
  refine ⟨trivial, ?_⟩
  refine (callsIn_wide.2 (tblocks_any t _)).mono ?_
  rintro e w1 ⟨rfl, rfl⟩
  obtain ⟨W0, hW0⟩ : ∃ W0, W0 = (((w.alloc (.cells #[.bool false, .slice none 0 0] 24)).alloc (.cells #[.slice none 0 0] 22)).alloc (.cells #[.string t] 9)) := ⟨_, rfl⟩
  have hsz : W0.heap.size = w.heap.size + 3 := by rw [hW0]; simp
  have hbw : Below w.heap.size w W0 := by rw [hW0]; exact ba (ba (ba (b0 _) _) _) _
  have hx0 : Box2 W0 w.heap.size (.bool false) (.slice none 0 0) := by rw [hW0]; exact ((Box2.new w _ _).alloc _).alloc _
  have hx1 : Box W0 (w.heap.size + 1) (.slice none 0 0) := by
    rw [hW0]
    have h := (Box.new (w.alloc (.cells #[.bool false, .slice none 0 0] 24)) (.slice none 0 0)).below (ba (b0 _) (.cells #[.string t] 9))
    rwa [World.size_alloc] at h
  have hx2 : SBox W0 (w.heap.size + 2) (.string t) := by
    rw [hW0]
    have h := SBox.new ((w.alloc (.cells #[.bool false, .slice none 0 0] 24)).alloc (.cells #[.slice none 0 0] 22)) (.string t)
    rwa [World.size_alloc, World.size_alloc] at h
  rw [← hW0, show ((w.alloc (.cells #[.bool false, .slice none 0 0] 24)).alloc (.cells #[.slice none 0 0] 22)).heap.size = w.heap.size + 2 from by simp]
  clear hW0
  gi_wp2
  refine range_all rfl (by decide) (gf := 65) (lb := #[.pointer (some ⟨w.heap.size + 2, 0, none⟩)]) rfl trivial (enters_of Tryd.func65 (by kernel_rfl) rfl)
    (encs := fun x : Nat × Nat => #[.int .u32 (x.1 : Int), .int .i64 (x.2 : Int)]) (Tn := Only (w.heap.size + 2)) (Kp := KpB (w.heap.size + 2)) (xs := blks t.size t.data.toList)
    (fun W hW _ => tb_gives 4 (by decide) (w.heap.size + 2) t (by omega) HDG.out W (hx2.below hW)) (fun _ => rfl)
    (fun A B hlt hO => ⟨hO.block _ (by omega) (fun e => by injection e; omega), hO.block _ (by omega) (fun e => by injection e; omega)⟩)
    (fun h k => Eq.trans k h) (fun W o => World.putObj_heap_other (by omega))
    (PI w (w.heap.size + 1) (W0.heap.size + 2)) (fun s A B h hO => h.only hO (by omega) (by omega) (by omega) hgT)
    (fun s A o h hlt => h.only (only_putObj _ _ _) (by omega) (by omega) (by omega) hgT)
    (fun W hb => ⟨⟨.slice none 0 0, [], hx1.below hb, OwnR.nil _ _, top_nil, rfl, Nat.le_refl _, fun _ => rfl⟩, HT.out.below (bt hbw hb), hx0.below hb, bt hbw hb⟩) ?a1 ?assign ?body ?done
  case assign =>
    intro l x W K hK
    gi_wp2
    exact hK
  case body =>
    rintro l pre x suf hxs W ⟨⟨v, k, hv, hk, hkT, hkv, hkl, hk0⟩, hTn, hr, hb⟩ hlt
    have hxm : x ∈ blks t.size t.data.toList := by rw [hxs]; simp
    obtain ⟨hx1, hx9, hx0⟩ := blks_lt _ _ HDG.out x hxm
    have hp9 : 10 ^ x.2 ≤ 10 ^ 9 := Nat.pow_le_pow_right (by decide) hx9
    have hpp : 0 < 10 ^ x.2 := Nat.pow_pos (by decide)
    have hlenx : k.length ≤ 20000 := by
      have := blks_length t.size t.data.toList
      rw [hxs] at this
      simp at this
      omega
    have htc := hTn x.2 hx9
    obtain ⟨T, hTT⟩ : ∃ T, T = 10 ^ x.2 := ⟨_, rfl⟩
    have HTT := Lib.hid hTT
    rw [← hTT] at htc hp9 hpp hx1
    clear hTT
    have hc6 := hv.cell
    have hf6 := hv.free 0
    have hmx : Tryd.prog.follows .mixedOrders = true := by kernel_rfl
    have hx9i : (x.2 : Int) ≤ 9 := by omega
    have P1 : Hid (T < 4294967296) := Lib.hid (by omega)
    have P2 : Hid (x.1 < 4294967296) := Lib.hid (by omega)
    have P3 := Lib.hid hpp
    have P4 : Hid (k.length ≤ 1000000) := Lib.hid (by omega)
    have P5 : Hid (blkNum 0 (pre ++ [x]) = val k * T + x.1) := Lib.hid (by rw [blkNum_append, ← hkv, HTT.out]; rfl)
    have P6 : Hid (W0.heap.size + 2 ≤ W.heap.size) := Lib.hid (by omega)
    have HKV := Lib.hid hkv
    have HSZ : Hid (w.heap.size + 1 < W0.heap.size + 2) := Lib.hid (by omega)
    have HSZ2 := Lib.hid hsz
    clear hsz hlt
    clear hp9 hpp hx1 hlenx hkv hxs hxm
    gi_wp2
    gi_region_with_o (refine ⟨trivial, ?_⟩; gi_at_call 41; refine (CallsIn.inRound l (callsIn_wide.2 (extend_any (W0.heap.size + 2) _ v k T x.1 (blkNum 0 (pre ++ [x])) (hk.below (bw (b0 _))) hk0 P4.out hkT P3.out P1.out P2.out P6.out P5.out))).mono ?_; rintro e w2 ⟨v2, k2, rfl, hk2, hkT2, hkv2, hgr2, hk02⟩; have hb2 := own_other hk hgr2 hv HSZ.out; have hc62 := hb2.cell; have hf62 := hb2.free 0; have HKV2 := Lib.hid hkv2; have HK02 := Lib.hid hk02; clear hkv2 hk02; obtain ⟨A2, c2, rfl⟩ := hk2.slice)
    all_goals gi_wp2
    all_goals exact parse_step HSZ2.out P6.out hgT hk hgr2 hb2 hk2 hkT2 HKV2.out P5.out P1.out P2.out hkl HK02.out hTn hr hb
  case done =>
    rintro W ⟨⟨v, k, hv, hk, hkT, hkv, hkl, hk0⟩, hTn, hr, hb⟩ hD
    obtain ⟨A, c, rfl⟩ := hk.slice
    have hws := hk.ws
    have hcv := hv.cell
    have P4 : k.length ≤ 4000000 := by
      have := blks_length t.size t.data.toList
      omega
    have HKV := Lib.hid hkv
    have HSZ := Lib.hid hsz
    clear hkv hkl hk0 hk hsz
    gi_wp2
    refine ⟨trivial, ?_⟩
    refine (callsIn_wide.2 (signed_ws ng A c k W P4 hkT hws)).mono ?_
    rintro e w2 ⟨n2, A2, c2, rfl, hl2, hB2, hz2, hb2⟩
    have HB2 := Lib.hid hB2
    have HZ2 := Lib.hid hz2
    clear hB2 hz2
    have hbx := hr.below hb2
    have x0 := hbx.cell0
    have x1 := hbx.cell1
    have f0 := hbx.free 0
    have f1 := hbx.free 1
    obtain ⟨k0, k1, k2⟩ := hbx.back (.bool n2) (.slice A2 k.length c2)
    gi_wp2
    obtain ⟨W3, hW3⟩ : ∃ W3, W3 = (w2.setCell ⟨w.heap.size, 0, none⟩ (.bool n2)).setCell ⟨w.heap.size, 1, none⟩ (.slice A2 k.length c2) := ⟨_, rfl⟩
    have hbx3 : Box2 W3 w.heap.size (.bool n2) (.slice A2 k.length c2) := by rw [hW3]; exact (hbx.set0 _).set1 _
    have hoff := ws_off_box hbx (by simp) hl2
    have hl3 : WS W3 A2 k := by rw [hW3]; exact hl2.two hoff _ _
    have hD2 : w2.heap[W0.heap.size]? = some (.deferred (some [])) := (hb2.block _ (Array.getElem?_eq_some_iff.1 hD).1).trans hD
    have hD3 : W3.heap[W0.heap.size]? = some (.deferred (some [])) := by
      rw [hW3, Below.heap_setCell _ _ _ _ (by show _ ≠ w.heap.size; have := HSZ.out; omega), Below.heap_setCell _ _ _ _ (by show _ ≠ w.heap.size; have := HSZ.out; omega)]
      exact hD2
    have hb3 : Below w.heap.size w W3 := by rw [hW3]; exact b2 (bt hb hb2) (Nat.le_refl _) _ _
    rw [← hW3]
    have hO := only_putObj W3 W0.heap.size (.deferred none)
    have hbx4 := box2_only hbx3 hO (by have := HSZ.out; omega)
    have q0 := hbx4.cell0
    have q1 := hbx4.cell1
    have hl4 : WS (W3.putObj W0.heap.size (.deferred none)) A2 k := hl3.only hO (fun h b o e => by
      obtain ⟨b', o', e', hlt', hc'⟩ := hl3.2 h
      rw [e] at e'
      injection e' with e'
      injection e' with e1 _
      subst e1
      rintro rfl
      have h2 := hc' 0 (List.length_pos_iff.2 h)
      simp [World.cell?, hD3] at h2)
    refine ⟨by simp, .inl ⟨_, _, rfl, run_takeDeferred hD3, ?_⟩⟩
    refine ⟨.tuple #[.agg #[.bool n2, .slice A2 k.length c2], .int .i64 0], by simp [results, Tryd.results11, go_sem, q0, q1], n2, A2, c2, k, rfl, hl4, HB2.out, ?_, bo hb3 hO (by have := HSZ.out; omega)⟩
    have hval : val k = dnum t.data.toList := by
      have e := blkNum_all t.size t.data.toList 0 (Nat.le_refl _)
      rw [HKV.out, e, Nat.zero_mul, Nat.zero_add]
    rw [HZ2.out, HZZ.out, ← hval]
    rfl

theorem Parse_ok (w : World) (s t : ByteArray) (ng : Bool) (ht : pDig s = t) (hng : pNeg s = ng) (hd : digs t = true) (h0 : byt t 0 = 48 → s = ⟨#[48]⟩) (hlen : t.size ≤ 20000) (hT : Tens w) :
    Calls Tryd.prog 11 #[.string s] w (PRes w (if ng then -(dnum t.data.toList : Int) else (dnum t.data.toList : Int))) := by
  obtain ⟨hne, hdg⟩ := digs_is hd
  have hpos : 0 < t.size := by
    have hlen : t.data.toList.length = t.size := rfl
    have := List.length_pos_iff.2 hne
    omega
  rw [byt_at hpos] at h0
  by_cases h48 : t[0].toNat = 48
  · exact Parse_okA w s t ng ht hng hd hpos (by omega) (by rw [h0 h48, ByteArray.toList_eq]; rfl) hlen hT _ rfl
  · exact Parse_okB w s t ng ht hng hd hpos (by simp; omega) hlen hT _ rfl
end Go.Proofs.YtaaipcjbmdbndaaDoor
