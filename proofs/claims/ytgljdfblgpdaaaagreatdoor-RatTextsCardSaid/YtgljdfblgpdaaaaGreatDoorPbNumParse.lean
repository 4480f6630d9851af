import Derived.Laws.BytesArg
import Derived.Test.YtgljdfblgpdaaaaGreatDoorPbNumDivI
import Derived.Test.YtgljdfblgpdaaaaGreatDoorPbNumTxM
set_option linter.unusedSimpArgs false
set_option linter.unusedVariables false
set_option maxRecDepth 100000
set_option maxHeartbeats 4000000
namespace Go.Proofs.YtgljdfblgpdaaaaGreatDoor
open Go.RowKit Go.Shelf
variable {A : Option Addr} {N base c g i n p q : Nat} {W W' a w w' : World} {l : List Nat} {v : Value} {z : Int}
attribute [local go_sem] Oper.semAt_some
def pNeg (s : ByteArray) : Bool := Lib.hasPrefix s.data.toList [45]
def pDig (s : ByteArray) : ByteArray := ⟨(Lib.trimPrefix s.data.toList [45]).toArray⟩
theorem cut_any (s : ByteArray) (w : World) :
  Calls Tryz.prog 129 #[.string s, .string ⟨#[45]⟩] w fun e w' => e = .returned (.tuple #[.string (pDig s), .bool (pNeg s)]) ∧ w' = w := Tryz.strings_CutPrefix s ⟨#[45]⟩ w
theorem tblocks_any (s : ByteArray) (w : World) :
  Calls Tryz.prog 131 #[.string s] w fun e w' => e = .returned (.func (.func 167) #[] #[.pointer (some ⟨w.heap.size, 0, none⟩)]) ∧ w' = w.alloc (.cells #[.string s] 9) := by
 go_enter Tryz.func131, Tryz.ntmps131
 go_wp2_with fail
 go_ret
 exact ⟨rfl, rfl⟩
theorem wblocks_any (A : Option Addr) (n c : Nat) (w : World) :
  Calls Tryz.prog 137 #[.slice A n c] w fun e w' => e = .returned (.func (.func 171) #[] #[.pointer (some ⟨w.heap.size, 0, none⟩)]) ∧ w' = w.alloc (.cells #[.slice A n c] 22) := by
 go_enter Tryz.func137, Tryz.ntmps137
 go_wp2_with fail
 go_ret
 exact ⟨rfl, rfl⟩
theorem digs_is {t : ByteArray} (h : digs t = true) : t.data.toList ≠ [] ∧ ∀ c ∈ t.data.toList, isDg c := by
 unfold digs at h
 rw [Bool.and_eq_true, decide_eq_true_eq, decide_eq_true_eq] at h
 have hlen : t.data.toList.length = t.size := rfl
 refine ⟨fun e => h.1 (by rw [e, List.length_nil] at hlen; exact hlen.symm), fun c hc => ?_⟩
 obtain ⟨i, hi, rfl⟩ := List.getElem_of_mem hc
 have := h.2 i hi
 rw [byt_at hi] at this
 exact this
theorem blks_length : ∀ (f : Nat) (l : List UInt8), (blks f l).length ≤ f
 | 0, _ => by simp [blks]
 | f + 1, l => by
  unfold blks
  by_cases h : l = []
  ·rw [if_pos h]; simp
  ·rw [if_neg h, List.length_cons]
   have := blks_length f (l.drop 9)
   omega
theorem Box.free (h : Box W p v) (i : Nat) : W.frozen? ⟨p, i, none⟩ = false := by
 unfold Box at h
 simp [World.frozen?, h]
theorem Box.set_ (h : Box W p v) (x : Value) : Box (W.setCell ⟨p, 0, none⟩ x) p x := by
 unfold Box at h ⊢
 simp [World.setCell, Array.getElem?_modify, h]
theorem OwnR.only (h : OwnR base W v l) (hO : Only q W W') (hq : q < base) : OwnR base W' v l :=
 ⟨h.1.kept hO (by
  cases hv : v.ownBlock with
  | none => exact .inl rfl
  | some k => exact .inr (fun e => by injection e with e; have := (h.1.lt k hv).1; omega)), h.2⟩
theorem only_putObj (W : World) (l : Nat) (o : Obj) : Only l W (W.putObj l o) := grownBy_putObj' W l o
theorem own_other {W W2 : World} {v u : Value} (h : OwnR base W v l) (hg : W.drew.grownBy W2 v.ownBlock) (hb : Box W p u) (hp : p < base) : Box W2 p u :=
 (hg.block p hb.lt (fun e => by have := (h.1.lt p e.symm).1; omega)).trans hb
def PI (w : World) (p base : Nat) (pre : List (Nat × Nat)) (W : World) : Prop :=
 (∃ v l, Box W p v ∧ OwnR base W v l ∧ Top l ∧ val l = blkNum 0 pre ∧ l.length ≤ pre.length ∧ (l.length = 0 → v = .slice none 0 0)) ∧ Tens W ∧ Box2 W w.heap.size (.bool false) (.slice none 0 0) ∧ Below w.heap.size w W
theorem PI.only {pre : List (Nat × Nat)} {A B : World} (h : PI w p base pre A) (hO : Only q A B) (hq : q < base) (hqp : p ≠ q) (hqw : w.heap.size < q) (hg : 0 < w.heap.size) : PI w p base pre B := by
 obtain ⟨⟨v, l, h1, h2, h3, h4, h5, h50⟩, h6, h7, h8⟩ := h
 exact ⟨⟨v, l, h1.only hO hqp, h2.only hO hq, h3, h4, h5, h50⟩, h6.of_block (hO.block _ h6.lt (fun e => by injection e; omega)), box2_only h7 hO (by omega), bo h8 hO (by omega)⟩
theorem parse_step {w W w2 : World} {h T c : Nat} {pre : List (Nat × Nat)} {x : Nat × Nat} {A2 : Option Addr} {c2 : Nat} {k k2 : List Nat}
  (hh : h = w.heap.size + 3) (hlt : h + 2 ≤ W.heap.size) (hgT : 0 < w.heap.size) (hk : OwnR (h + 2) W v k) (hg : W.drew.grownBy w2 v.ownBlock) (hb2 : Box w2 (w.heap.size + 1) v) (hk2 : OwnR (h + 2) w2 (.slice A2 k2.length c2) k2)
  (hkT : Top k2) (hkv : val k2 = blkNum 0 (pre ++ [x])) (hN : blkNum 0 (pre ++ [x]) = val k * T + c) (hT : T < 4294967296) (hc : c < 4294967296) (hl : k.length ≤ pre.length) (h0 : k2.length = 0 → Value.slice A2 k2.length c2 = .slice none 0 0)
  (hTn : Tens W) (hr : Box2 W w.heap.size (.bool false) (.slice none 0 0)) (hb : Below w.heap.size w W) :
  ((w2.setCell ⟨w.heap.size + 1, 0, none⟩ (.slice A2 k2.length c2)).heap[h]? = W.heap[h]? ∧ (w2.setCell ⟨w.heap.size + 1, 0, none⟩ (.slice A2 k2.length c2)).heap[h + 1]? = W.heap[h + 1]?) ∧
  KpB (w.heap.size + 2) W (w2.setCell ⟨w.heap.size + 1, 0, none⟩ (.slice A2 k2.length c2)) ∧ PI w (w.heap.size + 1) (h + 2) (pre ++ [x]) (w2.setCell ⟨w.heap.size + 1, 0, none⟩ (.slice A2 k2.length c2)) := by
 have key : ∀ i, i ≠ w.heap.size + 1 → i < h + 2 → (w2.setCell ⟨w.heap.size + 1, 0, none⟩ (.slice A2 k2.length c2)).heap[i]? = W.heap[i]? := fun i hi hlt2 =>
  (Below.heap_setCell w2 ⟨w.heap.size + 1, 0, none⟩ _ i hi).trans (hg.block i (show i < W.heap.size by omega) (fun e => by have := (hk.1.lt i e.symm).1; omega))
 have hbs := hb.size
 refine ⟨⟨key _ (by omega) (by omega), key _ (by omega) (by omega)⟩, key _ (by omega) (by omega), ⟨_, k2, hb2.set_ _, ?_, hkT, hkv, ?_, h0⟩, hTn.of_block (key _ (by omega) (by omega)), (key _ (by omega) (by omega)).trans hr, ?_⟩
 ·exact ⟨ownsRow_setCell_other hk2.1 (fun e => by have := (hk2.1.lt _ e).1; simp at this; omega) _, hk2.2⟩
 ·have h1 : val k2 < BB (k.length + 1) := by
   have h2 := val_lt hk.2
   rw [hkv, hN, BB_succ]
   have h3 : val k + 1 ≤ BB k.length := h2
   have h4 := Nat.mul_le_mul_right 4294967296 h3
   have h5 := Nat.mul_le_mul_left (val k) (show T ≤ 4294967295 by omega)
   omega
  have := top_len hkT h1
  simp
  omega
 ·exact ⟨hg.os.trans hb.os, hg.tape.trans hb.tape, hg.output.trans hb.output, by have := hg.size; simp [World.setCell] at this ⊢; omega, fun i hi => (key i (by omega) (by omega)).trans (hb.block i hi)⟩
theorem OwnR.ws (h : OwnR base W (.slice A l.length c) l) : WS W A l := by
 rcases Nat.eq_zero_or_pos l.length with h0 | h0
 ·rw [List.eq_nil_of_length_eq_zero h0]; exact WS.nil_ _ _
 ·obtain ⟨g, cap, e, _, _, _, hw, _⟩ := h.some_ h0
  injection e with e1 _ _
  rw [e1]; exact hw
def SgR (w : World) (ng : Bool) (l : List Nat) (e : Ending) (w' : World) : Prop :=
 ∃ n A c, e = .returned (.agg #[.bool n, .slice A l.length c]) ∧ l.length ≤ c ∧ WS w' A l ∧ isB n l = true ∧ zI n l = zI ng l ∧ Below w.heap.size w w'
theorem signed_ws (ng : Bool) (A : Option Addr) (c : Nat) (l : List Nat) (w : World) (hm : l.length ≤ 4000000) (hT : Top l) (hl : WS w A l) (hc : l.length ≤ c) :
  Calls Tryz.prog 89 #[.bool ng, .slice A l.length c] w (SgR w ng l) := by
 refine (signed_any ng A l.length c w hm).mono fun e w' ⟨he, hb⟩ => ?_
 by_cases h0 : l.length = 0
 ·rw [if_pos h0] at he
  have hn := List.eq_nil_of_length_eq_zero h0
  subst hn
  exact ⟨false, none, 0, he, Nat.le_refl _, WS.nil_ _ _, rfl, by simp [zI_nil], hb⟩
 ·rw [if_neg h0] at he
  exact ⟨ng, A, c, he, hc, hl.below hb, isB_of hT (fun h => absurd h h0), rfl, hb⟩
def PRes (a : World) (z : Int) (e : Ending) (w' : World) : Prop :=
 ∃ n A c l, e = .returned (.tuple #[.agg #[.bool n, .slice A l.length c], .int .i64 0]) ∧ WS w' A l ∧ isB n l = true ∧ zI n l = z ∧ Below a.heap.size a w'
def PResC (a : World) (z : Int) (e : Ending) (w' : World) : Prop :=
 ∃ n A c l, e = .returned (.tuple #[.agg #[.bool n, .slice A l.length c], .int .i64 0]) ∧ l.length ≤ c ∧ WS w' A l ∧ isB n l = true ∧ zI n l = z ∧ Below a.heap.size a w'
theorem PResC.weak {e : Ending} (h : PResC a z e w') : PRes a z e w' := by
 obtain ⟨n, A, c, l, h1, _, h2⟩ := h
 exact ⟨n, A, c, l, h1, h2⟩
theorem OwnR.cap (h : OwnR base W (.slice A l.length c) l) : l.length ≤ c := by
 rcases Nat.eq_zero_or_pos l.length with h0 | h0
 ·omega
 ·obtain ⟨g, cap, e, _, _, hc, _⟩ := h.some_ h0
  injection e with _ _ e3
  omega
theorem m9e02f {P : Prop} (h : P := by
 have HZZ := Hi hz
 clear hz
 obtain ⟨hne, hdg⟩ := digs_is hd
 have hposi : (0 : Int) < (t.size : Int) := by omega
 have hleni : ¬ (20000 : Int) < (t.size : Int) := by omega
 have HDG := Hi hdg
 have HT := Hi hT
 have hgT := hT.lt
 clear hne hdg hT
 refine (callsIn_wide (n := 5)).1 ?_
 refine callsIn_of_wp_marks Tryz.func74 rfl trivial ?_ rfl
 simp only [Tryz.ntmps74, List.size_toArray, List.length_cons, List.length_nil, Nat.reduceAdd, Nat.reduceSub, Array.replicate_succ, Array.replicate_zero, List.push_toArray, List.append_toArray, List.nil_append, List.cons_append]
 gi_wp2
 refine ⟨trivial, ?_⟩
 refine (callsIn_wide.2 (cut_any s _)).mono ?_
 rintro e w1 ⟨rfl, rfl⟩
 rw [ht, hng]
 gi_wp2
 refine ⟨trivial, ?_⟩
 refine (callsIn_wide.2 (isDigits_any t _ (by omega))).mono ?_
 rintro e w1 ⟨rfl, rfl⟩
 rw [hd]
 gi_wp2
 refine ⟨trivial, ?_⟩
 refine (callsIn_wide.2 (tblocks_any t _)).mono ?_
 rintro e w1 ⟨rfl, rfl⟩
 obtain ⟨W0, hW0⟩ : ∃ W0, W0 = (((w.alloc (.cells #[.bool false, .slice none 0 0] 24)).alloc (.cells #[.slice none 0 0] 22)).alloc (.cells #[.string t] 9)) := ⟨_, rfl⟩
 have hsz : W0.heap.size = w.heap.size + 3 := by rw [hW0]; simp
 have hbw : Below w.heap.size w W0 := by rw [hW0]; exact ba (ba (ba (b0 _) _) _) _
 have hx0 : Box2 W0 w.heap.size (.bool false) (.slice none 0 0) := by rw [hW0]; exact ((Box2.new w _ _).alloc _).alloc _
 have hx1 : Box W0 (w.heap.size + 1) (.slice none 0 0) := by
  rw [hW0]
  have h := (Box.new (w.alloc (.cells #[.bool false, .slice none 0 0] 24)) (.slice none 0 0)).below (ba (b0 _) (.cells #[.string t] 9))
  rwa [World.size_alloc] at h
 have hx2 : SBox W0 (w.heap.size + 2) (.string t) := by
  rw [hW0]
  have h := SBox.new ((w.alloc (.cells #[.bool false, .slice none 0 0] 24)).alloc (.cells #[.slice none 0 0] 22)) (.string t)
  rwa [World.size_alloc, World.size_alloc] at h
 rw [← hW0, show ((w.alloc (.cells #[.bool false, .slice none 0 0] 24)).alloc (.cells #[.slice none 0 0] 22)).heap.size = w.heap.size + 2 from by simp]
 clear hW0
 gi_wp2
 refine range_all rfl (by decide) (gf := 167) (lb := #[.pointer (some ⟨w.heap.size + 2, 0, none⟩)]) rfl trivial (enters_of Tryz.func167 (by kernel_rfl) rfl)
  (encs := fun x : Nat × Nat => #[.int .u32 (x.1 : Int), .int .i64 (x.2 : Int)]) (Tn := Only (w.heap.size + 2)) (Kp := KpB (w.heap.size + 2)) (xs := blks t.size t.data.toList)
  (fun W hW _ => tb_gives 4 (by decide) (w.heap.size + 2) t (by omega) HDG.out W (hx2.below hW)) (fun _ => rfl)
  (fun A B hlt hO => ⟨hO.block _ (by omega) (fun e => by injection e; omega), hO.block _ (by omega) (fun e => by injection e; omega)⟩)
  (fun h k => Eq.trans k h) (fun W o => World.putObj_heap_other (by omega))
  (PI w (w.heap.size + 1) (W0.heap.size + 2)) (fun s A B h hO => h.only hO (by omega) (by omega) (by omega) hgT)
  (fun s A o h hlt => h.only (only_putObj _ _ _) (by omega) (by omega) (by omega) hgT)
  (fun W hb => ⟨⟨.slice none 0 0, [], hx1.below hb, OwnR.nil _ _, top_nil, rfl, Nat.le_refl _, fun _ => rfl⟩, HT.out.below (bt hbw hb), hx0.below hb, bt hbw hb⟩) ?a1 ?assign ?body ?done
 case assign =>
  intro l x W K hK
  gi_wp2
  exact hK
 case body =>
  rintro l pre x suf hxs W ⟨⟨v, k, hv, hk, hkT, hkv, hkl, hk0⟩, hTn, hr, hb⟩ hlt
  have hxm : x ∈ blks t.size t.data.toList := by rw [hxs]; simp
  obtain ⟨hx1, hx9, hx0⟩ := blks_lt _ _ HDG.out x hxm
  have hp9 : 10 ^ x.2 ≤ 10 ^ 9 := Nat.pow_le_pow_right (by decide) hx9
  have hpp : 0 < 10 ^ x.2 := Nat.pow_pos (by decide)
  have hlenx : k.length ≤ 20000 := by
   have := blks_length t.size t.data.toList
   rw [hxs] at this
   simp at this
   omega
  have htc := hTn x.2 hx9
  obtain ⟨T, hTT⟩ : ∃ T, T = 10 ^ x.2 := ⟨_, rfl⟩
  have HTT := Hi hTT
  rw [← hTT] at htc hp9 hpp hx1
  clear hTT
  have hc6 := hv.cell
  have hf6 := hv.free 0
  have hmx : Tryz.prog.follows .mixedOrders = true := by kernel_rfl
  have hx9i : (x.2 : Int) ≤ 9 := by omega
  have P1 : Hid (T < 4294967296) := Hi (by omega)
  have P2 : Hid (x.1 < 4294967296) := Hi (by omega)
  have P3 := Hi hpp
  have P4 : Hid (k.length ≤ 1000000) := Hi (by omega)
  have P5 : Hid (blkNum 0 (pre ++ [x]) = val k * T + x.1) := Hi (by rw [blkNum_append, ← hkv, HTT.out]; rfl)
  have P6 : Hid (W0.heap.size + 2 ≤ W.heap.size) := Hi (by omega)
  have HKV := Hi hkv
  have HSZ : Hid (w.heap.size + 1 < W0.heap.size + 2) := Hi (by omega)
  have HSZ2 := Hi hsz
  clear hsz hlt
  clear hp9 hpp hx1 hlenx hkv hxs hxm
  gi_wp2
  gi_region_with_o (refine ⟨trivial, ?_⟩; gi_at_call 132; refine (CallsIn.inRound l (callsIn_wide.2 (extend_any (W0.heap.size + 2) _ v k T x.1 (blkNum 0 (pre ++ [x])) (hk.below (bw (b0 _))) hk0 P4.out hkT P3.out P1.out P2.out P6.out P5.out))).mono ?_; rintro e w2 ⟨v2, k2, rfl, hk2, hkT2, hkv2, hgr2, hk02⟩; have hb2 := own_other hk hgr2 hv HSZ.out; have hc62 := hb2.cell; have hf62 := hb2.free 0; have HKV2 := Hi hkv2; have HK02 := Hi hk02; clear hkv2 hk02; obtain ⟨A2, c2, rfl⟩ := hk2.slice)
  all_goals gi_wp2
  all_goals exact parse_step HSZ2.out P6.out hgT hk hgr2 hb2 hk2 hkT2 HKV2.out P5.out P1.out P2.out hkl HK02.out hTn hr hb
 case done =>
  rintro W ⟨⟨v, k, hv, hk, hkT, hkv, hkl, hk0⟩, hTn, hr, hb⟩ hD
  obtain ⟨A, c, rfl⟩ := hk.slice
  have hws := hk.ws
  have HCP := Hi hk.cap
  have hcv := hv.cell
  have P4 : k.length ≤ 4000000 := by
   have := blks_length t.size t.data.toList
   omega
  have HKV := Hi hkv
  have HSZ := Hi hsz
  clear hkv hkl hk0 hk hsz
  gi_wp2
  refine ⟨trivial, ?_⟩
  refine (callsIn_wide.2 (signed_ws ng A c k W P4 hkT hws HCP.out)).mono ?_
  rintro e w2 ⟨n2, A2, c2, rfl, hc2, hl2, hB2, hz2, hb2⟩
  have HC2 := Hi hc2
  clear hc2
  have HB2 := Hi hB2
  have HZ2 := Hi hz2
  clear hB2 hz2
  have hbx := hr.below hb2
  obtain ⟨x0, x1⟩ := hbx.cs
  have f0 := hbx.free 0
  have f1 := hbx.free 1
  obtain ⟨k0, k1, k2⟩ := hbx.back (.bool n2) (.slice A2 k.length c2)
  gi_wp2
  obtain ⟨W3, hW3⟩ : ∃ W3, W3 = (w2.setCell ⟨w.heap.size, 0, none⟩ (.bool n2)).setCell ⟨w.heap.size, 1, none⟩ (.slice A2 k.length c2) := ⟨_, rfl⟩
  have hbx3 : Box2 W3 w.heap.size (.bool n2) (.slice A2 k.length c2) := by rw [hW3]; exact (hbx.set0 _).set1 _
  have hoff := ws_off_box hbx (by simp) hl2
  have hl3 : WS W3 A2 k := by rw [hW3]; exact hl2.two hoff _ _
  have hD2 : w2.heap[W0.heap.size]? = some (.deferred (some [])) := (hb2.block _ (Array.getElem?_eq_some_iff.1 hD).1).trans hD
  have hD3 : W3.heap[W0.heap.size]? = some (.deferred (some [])) := by
   rw [hW3, Below.heap_setCell _ _ _ _ (by show _ ≠ w.heap.size; have := HSZ.out; omega), Below.heap_setCell _ _ _ _ (by show _ ≠ w.heap.size; have := HSZ.out; omega)]
   exact hD2
  have hb3 : Below w.heap.size w W3 := by rw [hW3]; exact b2 (bt hb hb2) (Nat.le_refl _) _ _
  rw [← hW3]
  have hO := only_putObj W3 W0.heap.size (.deferred none)
  have hbx4 := box2_only hbx3 hO (by have := HSZ.out; omega)
  obtain ⟨q0, q1⟩ := hbx4.cs
  have hl4 : WS (W3.putObj W0.heap.size (.deferred none)) A2 k := hl3.only hO (fun h b o e => by
   obtain ⟨b', o', e', hlt', hc'⟩ := hl3.2 h
   rw [e] at e'
   injection e' with e'
   injection e' with e1 _
   subst e1
   rintro rfl
   have h2 := hc' 0 (List.length_pos_iff.2 h)
   simp [World.cell?, hD3] at h2)
  refine ⟨by simp, .inl ⟨_, _, rfl, run_takeDeferred hD3, ?_⟩⟩
  refine ⟨.tuple #[.agg #[.bool n2, .slice A2 k.length c2], .int .i64 0], by simp [results, Tryz.results74, go_sem, q0, q1], n2, A2, c2, k, rfl, HC2.out, hl4, HB2.out, ?_, bo hb3 hO (by have := HSZ.out; omega)⟩
  have hval : val k = dnum t.data.toList := by
   have e := blkNum_all t.size t.data.toList 0 (Nat.le_refl _)
   rw [HKV.out, e, Nat.zero_mul, Nat.zero_add]
  rw [HZ2.out, HZZ.out, ← hval]
  rfl) : P := h
theorem Parse_okA (w : World) (s t : ByteArray) (ng : Bool) (ht : pDig s = t) (hng : pNeg s = ng) (hd : digs t = true) (hpos : 0 < t.size) (h48i : (t[0].toNat : Int) = 48) (hs : (!s.toList == [48]) = false) (hlen : t.size ≤ 20000) (hT : Tens w) (z : Int) (hz : z = if ng then -(dnum t.data.toList : Int) else (dnum t.data.toList : Int)) :
  Calls Tryz.prog 74 #[.string s] w (PResC w z) := by
 exact m9e02f
theorem Parse_okB (w : World) (s t : ByteArray) (ng : Bool) (ht : pDig s = t) (hng : pNeg s = ng) (hd : digs t = true) (hpos : 0 < t.size) (h48i : ((t[0].toNat : Int) == 48) = false) (hlen : t.size ≤ 20000) (hT : Tens w) (z : Int) (hz : z = if ng then -(dnum t.data.toList : Int) else (dnum t.data.toList : Int)) :
  Calls Tryz.prog 74 #[.string s] w (PResC w z) := by
 exact m9e02f
theorem Parse_okC (w : World) (s t : ByteArray) (ng : Bool) (ht : pDig s = t) (hng : pNeg s = ng) (hd : digs t = true) (h0 : byt t 0 = 48 → s = ⟨#[48]⟩) (hlen : t.size ≤ 20000) (hT : Tens w) :
  Calls Tryz.prog 74 #[.string s] w (PResC w (if ng then -(dnum t.data.toList : Int) else (dnum t.data.toList : Int))) := by
 obtain ⟨hne, hdg⟩ := digs_is hd
 have hpos : 0 < t.size := by
  have hlen : t.data.toList.length = t.size := rfl
  have := List.length_pos_iff.2 hne
  omega
 rw [byt_at hpos] at h0
 by_cases h48 : t[0].toNat = 48
 ·exact Parse_okA w s t ng ht hng hd hpos (by omega) (by rw [h0 h48, ByteArray.toList_eq]; rfl) hlen hT _ rfl
 ·exact Parse_okB w s t ng ht hng hd hpos (by simp; omega) hlen hT _ rfl
theorem Parse_ok (w : World) (s t : ByteArray) (ng : Bool) (ht : pDig s = t) (hng : pNeg s = ng) (hd : digs t = true) (h0 : byt t 0 = 48 → s = ⟨#[48]⟩) (hlen : t.size ≤ 20000) (hT : Tens w) :
  Calls Tryz.prog 74 #[.string s] w (PRes w (if ng then -(dnum t.data.toList : Int) else (dnum t.data.toList : Int))) :=
 (Parse_okC w s t ng ht hng hd h0 hlen hT).mono fun _ _ h => h.weak
open Go.RowKit Go.Shelf
variable {A : Option Addr} {N base c g i n p q : Nat} {W W' a w w' : World} {l : List Nat} {v : Value} {z : Int}
theorem info_b : (Tryz.prog.info? 5).map (fun i => (i.zero, i.size, i.bytes)) = some (some (.int .u8 0), 1, 1) := by kernel_rfl
def bytesv (L : List UInt8) : Array Value := (L.map fun x => Value.int .u8 (x.toNat : Int)).toArray
def BBlk (w : World) (g : Nat) (L : List UInt8) : Prop := w.heap[g]? = some (.cells (bytesv L) 5 (0, 0))
def bg (L : List UInt8) (j : Nat) : UInt8 := L.getD j 0
theorem BBlk.lt {L : List UInt8} (h : BBlk w g L) : g < w.heap.size := by
 rcases Nat.lt_or_ge g w.heap.size with hlt | hge
 ·exact hlt
 ·unfold BBlk at h; rw [Array.getElem?_eq_none hge] at h; cases h
theorem BBlk.cell {L : List UInt8} (h : BBlk w g L) (hi : i < L.length) : w.cell? ⟨g, i, none⟩ = some (.int .u8 ((bg L i).toNat : Int)) := by
 rw [cell_of_row w g i _ _ (0, 0) h]
 simp [bytesv, bg, List.getD_eq_getElem?_getD, List.getElem?_eq_getElem hi]
theorem BBlk.free {L : List UInt8} (h : BBlk w g L) (i : Nat) : w.frozen? ⟨g, i, none⟩ = false := by
 unfold BBlk at h
 simp [World.frozen?, h]
theorem BBlk.set_ {L : List UInt8} (h : BBlk w g L) (x : UInt8) : BBlk (w.setCell ⟨g, i, none⟩ (.int .u8 (x.toNat : Int))) g (L.set i x) := by
 unfold BBlk at h ⊢
 simp [World.setCell, Array.getElem?_modify, h, bytesv, List.map_set]
theorem BBlk.only {g g' : Nat} {L : List UInt8} (h : BBlk w g L) (hb : Only g' w w') (hne : g ≠ g') : BBlk w' g L := (hb.block g h.lt (fun e => hne (by injection e))).trans h
theorem BBlk.below {L : List UInt8} (h : BBlk w g L) (hb : Below w.heap.size w w') : BBlk w' g L := (hb.block g h.lt).trans h
theorem BBlk.new (w : World) (L : List UInt8) : BBlk (w.alloc (.cells (bytesv L) 5)) w.heap.size L := heap_alloc_new w _
def bzer (n : Nat) : List UInt8 := List.replicate n 0
theorem bzer_length (n : Nat) : (bzer n).length = n := by simp [bzer]
theorem run_mkb (N : Int) (n : Nat) (hN : N = n) (hn : n ≤ 4000000) (w : World) :
  (Instr.makeSlice 113 (.int .i64 N) (.int .i64 N)).run Tryz.prog w = .ok (.slice (some ⟨w.heap.size, 0, none⟩) n n) (w.alloc (.cells (bytesv (bzer n)) 5)) := by
 subst hN
 obtain ⟨i, hi, hz, hs, hb⟩ := info_parts info_b
 have h := run_make (P := Tryz.prog) w 113 5 i (.int .u8 0) Tryz.underlying113 hi hz .i64 .i64 n n (by omega) (by omega) (by rw [hb]; omega) (by omega)
 rw [Int.toNat_natCast, hs, Nat.mul_one] at h
 rw [h]
 have e : madeCells (Value.int .u8 0).cells n = bytesv (bzer n) := by
  apply Array.ext
  ·simp [bytesv, bzer_length, size_madeCells]
  ·intro j h1 h2
   simp [madeCells, bytesv, bzer, Value.cells, Nat.mod_one]
 rw [e]
theorem run_bstr {L : List UInt8} (h : BBlk w g L) (o n c : Nat) (hn : o + n = L.length) :
  (convert 113 9 (.slice (some ⟨g, o, none⟩) n c)).run Tryz.prog w = .ok (.string ⟨(L.drop o).toArray⟩) w := by
 have hd : ((L.drop o).map fun x => (x.toNat : Int)).length = n := by simp; omega
 rw [run_convert_bytes_arg w 113 5 Tryz.underlying113 Tryz.underlying5 g o n c ((L.drop o).map fun x => (x.toNat : Int)) hd (fun i hi => ?_) _ Tryz.underlying9]
 ·have e : strOfNums ((L.drop o).map fun x => (x.toNat : Int)) = ⟨(L.drop o).toArray⟩ := by
   unfold strOfNums
   rw [List.map_map]
   have : ((fun n : Int => UInt8.ofNat n.toNat) ∘ fun x : UInt8 => (x.toNat : Int)) = id := by
    funext x; simp
   rw [this, List.map_id]
  rw [e]
 ·rw [h.cell (by omega)]
  have hlt : i < (L.drop o).length := by simp; omega
  simp [bg, List.getD_eq_getElem?_getD, List.getElem?_drop, hlt]
  rw [List.getElem?_eq_getElem (by omega)]
  simp
def IBox (W : World) (p : Nat) (z : Int) : Prop := W.heap[p]? = some (.cells #[.int .i64 z] 3 (0, 0))
theorem IBox.cell (h : IBox W p z) : W.cell? ⟨p, 0, none⟩ = some (.int .i64 z) := by rw [cell_of_row W p 0 _ _ (0, 0) h]; rfl
theorem IBox.free (h : IBox W p z) (i : Nat) : W.frozen? ⟨p, i, none⟩ = false := by
 unfold IBox at h; simp [World.frozen?, h]
theorem IBox.set_ (h : IBox W p z) (x : Int) : IBox (W.setCell ⟨p, 0, none⟩ (.int .i64 x)) p x := by
 unfold IBox at h ⊢
 simp [World.setCell, Array.getElem?_modify, h]
theorem IBox.lt (h : IBox W p z) : p < W.heap.size := by
 rcases Nat.lt_or_ge p W.heap.size with hlt | hge
 ·exact hlt
 ·unfold IBox at h; rw [Array.getElem?_eq_none hge] at h; cases h
theorem IBox.only (h : IBox W p z) (hb : Only g W W') (hne : p ≠ g) : IBox W' p z := (hb.block p h.lt (fun e => hne (by injection e))).trans h
theorem IBox.below (h : IBox W p z) (hb : Below W.heap.size W W') : IBox W' p z := (hb.block p h.lt).trans h
theorem IBox.new (W : World) (z : Int) : IBox (W.alloc (.cells #[.int .i64 z] 3)) W.heap.size z := heap_alloc_new W _
def LBox (W : World) (p : Nat) (v : Value) : Prop := W.heap[p]? = some (.cells #[v] 113 (0, 0))
theorem LBox.cell (h : LBox W p v) : W.cell? ⟨p, 0, none⟩ = some v := by rw [cell_of_row W p 0 _ _ (0, 0) h]; rfl
theorem LBox.lt (h : LBox W p v) : p < W.heap.size := by
 rcases Nat.lt_or_ge p W.heap.size with hlt | hge
 ·exact hlt
 ·unfold LBox at h; rw [Array.getElem?_eq_none hge] at h; cases h
theorem LBox.only (h : LBox W p v) (hb : Only g W W') (hne : p ≠ g) : LBox W' p v := (hb.block p h.lt (fun e => hne (by injection e))).trans h
theorem LBox.below (h : LBox W p v) (hb : Below W.heap.size W W') : LBox W' p v := (hb.block p h.lt).trans h
theorem LBox.new (W : World) (v : Value) : LBox (W.alloc (.cells #[v] 113)) W.heap.size v := heap_alloc_new W _
def dof (bs : List Nat) : List UInt8 := bs.foldl (fun D b => dgs 9 b ++ D) []
theorem dof_snoc (bs : List Nat) (b : Nat) : dof (bs ++ [b]) = dgs 9 b ++ dof bs := by simp [dof, List.foldl_append]
theorem dof_length (bs : List Nat) : (dof bs).length = 9 * bs.length := by
 rcases List.eq_nil_or_concat bs with rfl | ⟨m', b, rfl⟩
 ·rfl
 ·have := dof_length m'
  rw [List.concat_eq_append, dof_snoc, List.length_append, dgs_length, this]
  simp; omega
termination_by bs.length
decreasing_by all_goals (subst_vars; simp)
theorem dof_fold (bs : List Nat) (D : List UInt8) : bs.foldl (fun D b => dgs 9 b ++ D) D = dof bs ++ D := by
 rcases List.eq_nil_or_concat bs with rfl | ⟨m', b, rfl⟩
 ·rfl
 ·have := dof_fold m' D
  rw [List.concat_eq_append, dof_snoc, List.foldl_append, this]
  simp
termination_by bs.length
decreasing_by all_goals (subst_vars; simp)
theorem dof_cons (b : Nat) (bs : List Nat) : dof (b :: bs) = dof bs ++ dgs 9 b := by
 have := dof_fold bs (dgs 9 b)
 show bs.foldl (fun D b => dgs 9 b ++ D) (dgs 9 b ++ []) = _
 rw [List.append_nil, this]
theorem dgs_mod (k N : Nat) : dgs k (N % 10 ^ k) = dgs k N := by
 refine dnum_inj (dgs_is _ _) (dgs_is _ _) (by rw [dgs_length, dgs_length]) ?_
 rw [dnum_dgs, dnum_dgs, Nat.mod_mod]
theorem dof_wblks : ∀ (f N : Nat), N ≤ f → dof (wblks f N) = dgs (9 * (wblks f N).length) N
 | 0, N, h => by simp [wblks, dof, dgs]
 | f + 1, N, h => by
  unfold wblks
  by_cases h0 : N = 0
  ·rw [if_pos h0]; rfl
  ·rw [if_neg h0, dof_cons, dof_wblks f (N / 1000000000) (by omega)]
   have e := dgs_mod 9 N
   rw [show (10 : Nat) ^ 9 = 1000000000 from rfl] at e
   rw [e, List.length_cons, show 9 * ((wblks f (N / 1000000000)).length + 1) = 9 * (wblks f (N / 1000000000)).length + 9 by omega, dgs_add]
theorem wblks_lower : ∀ (f N : Nat), N ≤ f → 0 < N → 10 ^ (9 * ((wblks f N).length - 1)) ≤ N
 | 0, N, h, h0 => by omega
 | f + 1, N, h, h0 => by
  unfold wblks
  rw [if_neg (by omega), List.length_cons, Nat.add_sub_cancel]
  rcases Nat.eq_zero_or_pos (N / 1000000000) with h1 | h1
  ·rw [h1, wblks_zero]; simp; omega
  ·have ih := wblks_lower f (N / 1000000000) (by omega) h1
   have hpos : 0 < (wblks f (N / 1000000000)).length := by
    cases f with
    | zero => omega
    | succ f => unfold wblks; rw [if_neg (by omega)]; simp
   have e : 10 ^ (9 * (wblks f (N / 1000000000)).length) = 10 ^ (9 * ((wblks f (N / 1000000000)).length - 1)) * 1000000000 := by
    rw [show 9 * (wblks f (N / 1000000000)).length = 9 * ((wblks f (N / 1000000000)).length - 1) + 9 by omega, Nat.pow_add]
   rw [e]
   have := Nat.mul_le_mul_right 1000000000 ih
   omega
theorem wblks_len (hl : ∀ x ∈ l, x < 4294967296) (h0 : 0 < val l) : 9 * (wblks (val l) (val l)).length ≤ 10 * l.length + 8 := by
 have h1 := wblks_lower (val l) (val l) (Nat.le_refl _) h0
 have h2 := val_lt hl
 have h3 : BB l.length ≤ 10 ^ (10 * l.length) := by
  unfold BB
  rw [Nat.pow_mul]
  exact Nat.pow_le_pow_left (by decide) _
 have h4 : 9 * ((wblks (val l) (val l)).length - 1) < 10 * l.length := by
  rcases Nat.lt_or_ge (9 * ((wblks (val l) (val l)).length - 1)) (10 * l.length) with h | h
  ·exact h
  ·have := Nat.pow_le_pow_right (show 0 < 10 by decide) h
   omega
 omega
open Go.RowKit Go.Shelf
variable {A : Option Addr} {N base c g i n p q : Nat} {W W' a w w' : World} {l : List Nat} {v : Value} {z : Int}
attribute [local go_sem] Oper.semAt_some
def Two (g : Nat) (W W' : World) : Prop := W.heap.size ≤ W'.heap.size ∧ ∀ i, i ≠ g → i ≠ g + 1 + 1 → W'.heap[i]? = W.heap[i]?
theorem Two.refl (g : Nat) (W : World) : Two g W W := ⟨Nat.le_refl _, fun _ _ _ => rfl⟩
theorem Two.set_ (h : Two g W W') {p : Addr} (hp : p.block = g ∨ p.block = g + 1 + 1) (u : Value) : Two g W (W'.setCell p u) :=
 ⟨by simpa [World.setCell] using h.1, fun i h1 h2 => (Below.heap_setCell _ _ _ _ (by rcases hp with e | e <;> rw [e] <;> assumption)).trans (h.2 i h1 h2)⟩
theorem bzer_set (b : Nat) (R : List UInt8) (u : UInt8) : (bzer (b + 1) ++ R).set b u = bzer b ++ (u :: R) := by
 unfold bzer
 rw [List.replicate_succ', List.append_assoc, List.set_append_right _ _ (by simp), List.length_replicate, Nat.sub_self]
 rfl
theorem dgs_front (j x : Nat) : dgs (j + 1) x = UInt8.ofNat (48 + (x / 10 ^ j) % 10) :: dgs j x := by
 rw [Nat.add_comm, dgs_add]
 rfl
theorem bs' (h : Below n a w) {p : Addr} (hp : n ≤ p.block) (u : Value) : Below n a (w.setCell p u) := h.setCell hp u
def ileft (N p : Nat) (W : World) : Nat := match W.cell? ⟨p, 0, none⟩ with | some (.int _ z) => N - z.toNat | _ => 0
theorem IBox.left {z : Nat} (h : IBox W p (z : Int)) : ileft N p W = N - z := by unfold ileft; rw [h.cell]; simp
theorem lead : ∀ {i : Nat} {D : List UInt8}, i ≤ D.length → (∀ j, j < i → bg D j = 48) → dnum D = dnum (D.drop i)
 | 0, D, _, _ => rfl
 | i + 1, [], h, _ => by simp at h
 | i + 1, c :: D, h, hz => by
  have h0 : c = 48 := hz 0 (by omega)
  have ih := lead (i := i) (D := D) (by simpa using h) (fun j hj => hz (j + 1) (by omega))
  rw [dnum_cons, h0, List.drop_succ_cons, ← ih]
  show 0 * _ + _ = _
  omega
theorem plain_drop {D : List UInt8} (hd : ∀ c ∈ D, isDg c) (hi : i < D.length) (h : bg D i ≠ 48) : Plain (D.drop i) := by
 refine ⟨fun c hc => hd c (List.mem_of_mem_drop hc), fun e => h ?_⟩
 rw [List.head?_drop] at e
 simp [bg, List.getD_eq_getElem?_getD, e]
theorem bg_mid {a i : Nat} {D : List UInt8} : bg (bzer a ++ D) (a + i) = bg D i := by
 simp only [bg, List.getD_eq_getElem?_getD]
 rw [List.getElem?_append_right (by simp [bzer]), bzer_length, Nat.add_sub_cancel_left]
theorem drop_mid {a i : Nat} {D : List UInt8} : (bzer a ++ D).drop (a + i) = D.drop i := by
 rw [List.drop_append, bzer_length, Nat.add_sub_cancel_left, List.drop_eq_nil_of_le (by simp [bzer])]
 rfl
theorem set_drop {R : List UInt8} (u : UInt8) (h : p < R.length) : (R.set p u).drop p = u :: R.drop (p + 1) := by
 rw [List.drop_eq_getElem_cons (by rw [List.length_set]; exact h), List.getElem_set_self, List.drop_set_of_lt (by omega)]
theorem wblks_upper : ∀ (f N : Nat), N ≤ f → N < 10 ^ (9 * (wblks f N).length)
 | 0, N, h => by simp [wblks]; omega
 | f + 1, N, h => by
  unfold wblks
  by_cases h0 : N = 0
  ·rw [if_pos h0]; simp; omega
  ·rw [if_neg h0, List.length_cons]
   have ih := wblks_upper f (N / 1000000000) (by omega)
   have e : 10 ^ (9 * ((wblks f (N / 1000000000)).length + 1)) = 10 ^ (9 * (wblks f (N / 1000000000)).length) * 1000000000 := by
    rw [Nat.mul_add, Nat.pow_add]
   rw [e]
   omega
def PrR (w : World) (ng : Bool) (N : Nat) (e : Ending) (w' : World) : Prop :=
 ∃ ds : List UInt8, e = .returned (.string ⟨((if ng then [45] else []) ++ ds).toArray⟩) ∧ ds ≠ [] ∧ Plain ds ∧ dnum ds = N ∧ Below w.heap.size w w'
def QI (w : World) (g N : Nat) (ng : Bool) (A : Option Addr) (c n : Nat) (pre : List Nat) (W : World) : Prop :=
 (∃ a, a + 9 * pre.length = N ∧ BBlk W g (bzer a ++ dof pre) ∧ IBox W (g + 1 + 1) (a : Int)) ∧ LBox W (g + 1) (.slice (some ⟨g, 0, none⟩) N N) ∧ Box2 W w.heap.size (.bool ng) (.slice A n c) ∧ Below w.heap.size w W
theorem QI.keep {ng : Bool} {pre : List Nat} (h : QI w g N ng A c n pre W) (hk : ∀ i, i < g + 3 → W'.heap[i]? = W.heap[i]?) (hb : Below w.heap.size w W') (hg : w.heap.size < g) : QI w g N ng A c n pre W' := by
 obtain ⟨⟨a, h1, h2, h3⟩, h4, h5, h6⟩ := h
 exact ⟨⟨a, h1, (hk _ (by omega)).trans h2, (hk _ (by omega)).trans h3⟩, (hk _ (by omega)).trans h4, (hk _ (by omega)).trans h5, hb⟩
theorem ma4daf {P : Prop} (h : P := by
 have := hlb.cell
 rw [← this]; exact World.cell?_of_block (htw.2 _ (by show g + 1 ≠ g; omega) (by show g + 1 ≠ g + 1 + 1; omega))) : P := h
theorem Print_pos (w : World) (ng : Bool) (A : Option Addr) (c : Nat) (l : List Nat) (h0 : 0 < l.length) (hm : l.length ≤ 10000) (hl : WS w A l) (hB : isB ng l = true) (hT : Tens w) :
  Calls Tryz.prog 84 #[.agg #[.bool ng, .slice A l.length c]] w (PrR w ng (val l)) := by
 have HB := Hi hB
 have HT := Hi hT
 have hgT := hT.lt
 have hz : ((l.length : Int) == 0) = false := beq_eq_false_iff_ne.2 (by omega)
 clear hT
 obtain ⟨N, hN⟩ : ∃ N, N = 10 * l.length + 10 := ⟨_, rfl⟩
 have hmk := fun W => run_mkb (N : Int) N rfl (by omega) W
 have hNi : 1 + 10 * (l.length : Int) + 9 = (N : Int) := by omega
 refine (callsIn_wide (n := 5)).1 ?_
 refine callsIn_of_wp_marks Tryz.func84 rfl trivial ?_ rfl
 simp only [Tryz.ntmps84, List.size_toArray, List.length_cons, List.length_nil, Nat.reduceAdd, Nat.reduceSub, Array.replicate_succ, Array.replicate_zero, List.push_toArray, List.append_toArray, List.nil_append, List.cons_append]
 have HN := Hi hN
 clear hN
 gi_wp2
 refine ⟨trivial, ?_⟩
 refine (callsIn_wide.2 (Is_any ng A l.length c l _ rfl (by omega) (hl.below (ba (b0 _) _)))).mono ?_
 rintro e w1 ⟨rfl, hb1⟩
 rw [HB.out]
 have hbx := (Box2.new w (.bool ng) (.slice A l.length c)).below hb1
 have hbw1 : Below w.heap.size w w1 := bt (ba (b0 _) _) hb1
 have hsz1 : w.heap.size < w1.heap.size := hbx.lt
 obtain ⟨y0, y1⟩ := hbx.cs
 have y2 : (((w1.alloc (.cells (bytesv (bzer N)) 5)).alloc (.cells #[.slice (some ⟨w1.heap.size, 0, none⟩) N N] 113)).alloc (.cells #[.int .i64 (N : Int)] 3)).cell? ⟨w.heap.size, 1, none⟩ = some (.slice A l.length c) := (((hbx.alloc _).alloc _).alloc _).cell1
 gi_wp2
 refine ⟨trivial, ?_⟩
 refine (callsIn_wide.2 (wblocks_any A l.length c _)).mono ?_
 rintro e w2 ⟨rfl, rfl⟩
 obtain ⟨g, hg⟩ : ∃ g, g = w1.heap.size := ⟨_, rfl⟩
 obtain ⟨W0, hW0⟩ : ∃ W0, W0 = (((w1.alloc (.cells (bytesv (bzer N)) 5)).alloc (.cells #[.slice (some ⟨w1.heap.size, 0, none⟩) N N] 113)).alloc (.cells #[.int .i64 (N : Int)] 3)).alloc (.cells #[.slice A l.length c] 22) := ⟨_, rfl⟩
 have hsz : W0.heap.size = g + 4 := by rw [hW0, hg]; simp
 have hbw : Below w.heap.size w W0 := by rw [hW0]; exact ba (ba (ba (ba hbw1 _) _) _) _
 have hx0 : Box2 W0 w.heap.size (.bool ng) (.slice A l.length c) := by rw [hW0]; exact (((hbx.alloc _).alloc _).alloc _).alloc _
 have hx1 : BBlk W0 g (bzer N) := by rw [hW0, hg]; exact (BBlk.new w1 (bzer N)).below (ba (ba (ba (b0 _) _) _) _)
 have hx2 : LBox W0 (g + 1) (.slice (some ⟨g, 0, none⟩) N N) := by
  rw [hW0, hg]
  have h := (LBox.new (w1.alloc (.cells (bytesv (bzer N)) 5)) (.slice (some ⟨w1.heap.size, 0, none⟩) N N)).below (ba (ba (b0 _) (.cells #[.int .i64 (N : Int)] 3)) (.cells #[.slice A l.length c] 22))
  rwa [World.size_alloc] at h
 have hx3 : IBox W0 (g + 1 + 1) (N : Int) := by
  rw [hW0, hg]
  have h := (IBox.new ((w1.alloc (.cells (bytesv (bzer N)) 5)).alloc (.cells #[.slice (some ⟨w1.heap.size, 0, none⟩) N N] 113)) (N : Int)).below (ba (b0 _) (.cells #[.slice A l.length c] 22))
  rwa [World.size_alloc, World.size_alloc] at h
 have hx4 : Box W0 (g + 3) (.slice A l.length c) := by
  rw [hW0, hg]
  have h := Box.new (((w1.alloc (.cells (bytesv (bzer N)) 5)).alloc (.cells #[.slice (some ⟨w1.heap.size, 0, none⟩) N N] 113)).alloc (.cells #[.int .i64 (N : Int)] 3)) (.slice A l.length c)
  rwa [World.size_alloc, World.size_alloc, World.size_alloc] at h
 have hl0 : WS W0 A l := hl.below hbw
 rw [← hW0, show (((w1.alloc (.cells (bytesv (bzer N)) 5)).alloc (.cells #[.slice (some ⟨w1.heap.size, 0, none⟩) N N] 113)).alloc (.cells #[.int .i64 (N : Int)] 3)).heap.size = g + 3 from by rw [hg]; simp, ← hg]
 rw [← hg] at hsz1
 clear hW0 hmk hb1 hbx hbw1 y0 y1 hg
 have hNl : 9 * (wblks (val l) (val l)).length + 2 ≤ N := by
  have := wblks_len hl.1 (val_pos (isB_top hB) h0)
  have := HN.out
  omega
 gi_wp2
 refine range_all rfl (by decide) (gf := 171) (lb := #[.pointer (some ⟨g + 3, 0, none⟩)]) rfl trivial (enters_of Tryz.func171 (by kernel_rfl) rfl)
  (encs := fun x : Nat => #[.int .u32 (x : Int)]) (Tn := Below (W0.heap.size + 2)) (Kp := KpW (W0.heap.size + 2)) (xs := wblks (val l) (val l))
  (fun W hW hs => by
   have h := wb_gives 4 (by decide) (g + 3) A c l (by omega) (isB_top HB.out) W (hx4.below hW).cell (hl0.below hW) (HT.out.below (bt hbw hW))
   rw [hs] at h
   exact h) (fun _ => rfl)
  (fun A B hlt hO => ⟨hO.block _ (by omega), hO.block _ (by omega)⟩)
  (fun h k => ⟨Nat.le_trans h.1 k.1, fun i hi hlt => (k.2 i hi (Nat.lt_of_lt_of_le hlt h.1)).trans (h.2 i hi hlt)⟩)
  (fun W o => ⟨by simp, fun i hi _ => World.putObj_heap_other (by omega)⟩)
  (QI w g N ng A c l.length) (fun s A B h hO => h.keep (fun i hi => hO.block i (by omega)) (h.2.2.2.trans (hO.mono (by omega))) hsz1)
  (fun s A o h hlt => h.keep (fun i hi => World.putObj_heap_other (by omega)) (bo h.2.2.2 (only_putObj _ _ _) (by omega)) hsz1)
  (fun W hb => ⟨⟨N, by simp, by simpa [dof] using hx1.below hb, hx3.below hb⟩, hx2.below hb, hx0.below hb, bt hbw hb⟩) ?_ ?assign ?body ?done
 case assign =>
  intro l x W K hK
  gi_wp2
  exact hK
 case body =>
  rintro l' pre x suf hxs W ⟨⟨a, ha, hbb, hib⟩, hlb, hbx, hbw2⟩ hlt
  have hlen9 : 9 * pre.length + 9 + 2 ≤ N := by
   rw [hxs] at hNl
   simp only [List.length_append, List.length_cons] at hNl
   omega
  have hxl : x < 1000000000 := wblks_lt _ _ x (by rw [hxs]; simp)
  have HX := Hi hxs
  have HA := Hi ha
  have HSZ := Hi hsz
  have hNl9 : N ≤ 200000 := by have := HN.out; omega
  have ha9 : 11 ≤ a := by omega
  have haN : a ≤ N := by omega
  clear hxs hNl y2 ha hsz hlen9 hNi
  gi_wp2
  gi_loopw [5, 26] (fun bv iv wr => ∃ j b y : Nat, j ≤ 9 ∧ Hid (b + j = a) ∧ iv = .int .i64 (j : Int) ∧ bv = .int .u32 (y : Int) ∧ y < 1000000000 ∧ Hid (y = x / 10 ^ j) ∧ BBlk wr g (bzer b ++ (dgs j x ++ dof pre)) ∧ IBox wr (g + 1 + 1) (b : Int) ∧ Two g W wr ∧ Below w.heap.size W wr) (fun _ iv _ => 9 - (intOf iv).toNat)
  case atStart => exact ⟨0, a, x, by omega, Hi rfl, rfl, rfl, hxl, Hi (by simp), by simpa [dgs] using hbb, hib, Two.refl _ _, Below.refl _ _⟩
  case round =>
   obtain ⟨j, b, y, hj, hba, rfl, rfl, hy, hyx, hbk, hbi, htw, hbl⟩ := hrel
   by_cases hlt9 : j < 9
   ·have hlt9i : (j : Int) < 9 := by omega
    have hb0 := hba.out
    obtain ⟨b', rfl⟩ : ∃ b', b = b' + 1 := ⟨b - 1, by omega⟩
    have hbi1 : b' < N := by omega
    have hbig : (b' : Int) < (N : Int) := by omega
    have hlist : (bzer (b' + 1) ++ (dgs j x ++ dof pre)).length = N := by
     have := HA.out
     simp only [List.length_append, bzer_length, dgs_length, dof_length]
     omega
    have q0 : wr.cell? ⟨g + 1 + 1, 0, none⟩ = some (.int .i64 ((b' : Int) + 1)) := hbi.cell
    have q1 := hbi.free 0
    have q2 : wr.cell? ⟨g + 1, 0, none⟩ = some (.slice (some ⟨g, 0, none⟩) N N) := by
     exact ma4daf
    have q3 := hbk.cell (i := b') (by rw [hlist]; exact hbi1)
    have q4 := hbk.free b'
    have hu := (isDg_of (y % 10) (Nat.mod_lt _ (by decide)))
    have hun : ((UInt8.ofNat (48 + y % 10)).toNat : Int) = 48 + (y : Int) % 10 := by
     have h1 := hu.1
     have h2 := hu.2
     unfold isDg at h1
     unfold dg at h2
     omega
    have HU := Hi hun
    have HL := Hi hlist
    clear hu hun hb0 hlist hbi1
    generalize (bg (bzer (b' + 1) ++ (dgs j x ++ dof pre)) b').toNat = qq at *
    gi_wp2
    go_roundw
    case rel =>
     refine ⟨j + 1, b', y / 10, by omega, Hi (by have := hba.out; omega), by go_num, by go_num, by omega, Hi ?_, ?_, ?_, ((htw.set_ (.inr rfl) _).set_ (.inl rfl) _), ?_⟩
     ·rw [hyx.out, Nat.div_div_eq_div_mul, ← Nat.pow_succ]
     ·have h := BBlk.set_ (hbk.only ((only_refl (g + 1 + 1) wr).set_ (p := ⟨g + 1 + 1, 0, none⟩) (.inl rfl) (.int .i64 (b' : Int))) (by omega)) (i := b') (UInt8.ofNat (48 + y % 10))
      rw [bzer_set, HU.out] at h
      rw [dgs_front, ← hyx.out]
      exact h
     ·exact (hbi.set_ (b' : Int)).only ((only_refl g _).set_ (.inl rfl) _) (by omega)
     ·exact bs' (bs' hbl (by show w.heap.size ≤ g + 1 + 1; omega) _) (by show w.heap.size ≤ g; omega) _
    case measure => simp [intOf]; omega
   ·obtain rfl : j = 9 := by omega
    gi_wp2
    refine ⟨⟨htw.2 _ (by have := HSZ.out; omega) (by have := HSZ.out; omega), htw.2 _ (by have := HSZ.out; omega) (by have := HSZ.out; omega)⟩, ⟨htw.1, fun i hi _ => htw.2 _ (by have := HSZ.out; rcases hi with h | h <;> omega) (by have := HSZ.out; rcases hi with h | h <;> omega)⟩, ⟨b, ?_, ?_, hbi⟩, ?_, ?_, ?_⟩
    ·have := hba.out; have := HA.out; simp; omega
    ·rw [dof_snoc]; exact hbk
    ·exact (htw.2 _ (by omega) (by omega)).trans hlb
    ·exact (htw.2 _ (by omega) (by omega)).trans hbx
    ·exact hbw2.trans hbl
 case done =>
  rintro W ⟨⟨a, ha, hbb, hib⟩, hlb, hbx, hbw2⟩ hD
  obtain ⟨D, hD1⟩ : ∃ D, D = dof (wblks (val l) (val l)) := ⟨_, rfl⟩
  have hDd : D = dgs (9 * (wblks (val l) (val l)).length) (val l) := by rw [hD1, dof_wblks _ _ (Nat.le_refl _)]
  have hDl : D.length = 9 * (wblks (val l) (val l)).length := by rw [hD1, dof_length]
  have hDis : ∀ c ∈ D, isDg c := by rw [hDd]; exact dgs_is _ _
  have hvp := val_pos (isB_top HB.out) h0
  have hDn : dnum D = val l := by
   rw [hDd, dnum_dgs, Nat.mod_eq_of_lt (wblks_upper _ _ (Nat.le_refl _))]
  have hD0 : 0 < D.length := by
   rcases Nat.eq_zero_or_pos D.length with h | h
   ·rw [List.eq_nil_of_length_eq_zero h] at hDn
    have : dnum [] = 0 := rfl
    omega
   ·exact h
  rw [← hD1] at hbb
  rw [← hDl] at ha hNl
  have HDl := Hi hDl
  have HDis := Hi hDis
  have HDn := Hi hDn
  have HSZ := Hi hsz
  have HA := Hi ha
  have hNl9 : N ≤ 200000 := by have := HN.out; omega
  have ha2 : 2 ≤ a := by omega
  have haN : a ≤ N := by omega
  clear hDd hDl hDis hDn hD1 y2 ha hsz hNi hNl
  gi_wp2
  gi_loopw [40] (fun _ wr => ∃ i q : Nat, i < D.length ∧ Hid (∀ j, j < i → bg D j = 48) ∧ Hid (q = a + i) ∧ q < N ∧ 2 ≤ q ∧ BBlk wr g (bzer a ++ D) ∧ IBox wr (g + 1 + 1) (q : Int) ∧ Two g W wr ∧ Below w.heap.size W wr) (fun _ wr => ileft N (g + 1 + 1) wr)
  case atStart => exact ⟨0, a, hD0, Hi (fun j hj => absurd hj (by omega)), Hi rfl, by have := HA.out; omega, ha2, hbb, hib, Two.refl _ _, Below.refl _ _⟩
  case round =>
   obtain ⟨i, q, hi, hz, hq, hqN, hq2, hbk, hbi, htw, hbl⟩ := hrel
   have hqNi : (q : Int) < (N : Int) := by omega
   have q0 : wr.cell? ⟨g + 1 + 1, 0, none⟩ = some (.int .i64 (q : Int)) := hbi.cell
   have q1 := hbi.free 0
   have q2 : wr.cell? ⟨g + 1, 0, none⟩ = some (.slice (some ⟨g, 0, none⟩) N N) := by
    exact ma4daf
   have q3 := hbk.cell (i := q) (by rw [List.length_append, bzer_length]; have := HA.out; omega)
   have hbgq : bg (bzer a ++ D) q = bg D i := by rw [hq.out]; exact bg_mid
   rw [hbgq] at q3
   clear hbgq
   by_cases h48 : bg D i = 48
   ·have H48 := Hi h48
    rw [h48, show (((48 : UInt8).toNat : Nat) : Int) = 48 from rfl] at q3
    clear h48
    have hi1 : i + 1 < D.length := by
     rcases Nat.lt_or_ge (i + 1) D.length with h | h
     ·exact h
     ·have h1 := lead (i := i + 1) (D := D) (by omega) (fun j hj => by
       rcases Nat.lt_or_ge j i with h2 | h2
       ·exact hz.out j h2
       ·rw [show j = i by omega]; exact H48.out)
      rw [List.drop_eq_nil_of_le h, HDn.out] at h1
      have : dnum [] = 0 := rfl
      omega
    gi_wp2
    go_roundw
    case rel =>
     refine ⟨i + 1, q + 1, hi1, Hi (fun j hj => ?_), Hi (by rw [hq.out]; omega), ?_, by omega, ?_, ?_, htw.set_ (.inr rfl) _, bs' hbl (by show w.heap.size ≤ g + 1 + 1; omega) _⟩
     ·rcases Nat.lt_or_ge j i with h2 | h2
      ·exact hz.out j h2
      ·rw [show j = i by omega]; exact H48.out
     ·have := hq.out; have := HA.out; omega
     ·exact hbk.only ((only_refl (g + 1 + 1) wr).set_ (.inl rfl) _) (by omega)
     ·exact hbi.set_ _
    case measure =>
     have h1 : IBox (wr.setCell ⟨g + 1 + 1, 0, none⟩ (.int .i64 ((q : Int) + 1))) (g + 1 + 1) ((q + 1 : Nat) : Int) := hbi.set_ _
     rw [h1.left, hbi.left]; omega
   ·have hne : (((bg D i).toNat : Int) == 48) = false := by
     have : (bg D i).toNat ≠ 48 := fun e => h48 (UInt8.toNat_inj.1 e)
     simp; omega
    have r0 : wr.cell? ⟨w.heap.size, 0, none⟩ = some (.bool ng) := by
     rw [← hbx.cell0]; exact World.cell?_of_block (htw.2 _ (by show w.heap.size ≠ g; omega) (by show w.heap.size ≠ g + 1 + 1; omega))
    have HLd : Hid (dnum (D.drop i) = val l) := Hi (by rw [← lead (by omega) hz.out, HDn.out])
    have HPl := Hi (plain_drop HDis.out hi h48)
    have HLn : Hid ((bzer a ++ D).length = N) := Hi (by rw [List.length_append, bzer_length]; exact HA.out)
    have hDr : wr.heap[W0.heap.size]? = some (.deferred (some [])) := (htw.2 _ (by have := HSZ.out; omega) (by have := HSZ.out; omega)).trans hD
    have hwb : Below w.heap.size w wr := hbw2.trans hbl
    clear h48
    rcases Bool.eq_false_or_eq_true ng with hng | hng
    ·have HNG := Hi hng
     obtain ⟨q', rfl⟩ : ∃ q', q = q' + 1 := ⟨q - 1, by omega⟩
     have q0' : wr.cell? ⟨g + 1 + 1, 0, none⟩ = some (.int .i64 ((q' : Int) + 1)) := q0
     have hqNi' : (q' : Int) < (N : Int) := by omega
     have q5 := hbk.cell (i := q') (by rw [HLn.out]; omega)
     have q6 := hbk.free q'
     have hbk2 : BBlk ((wr.setCell ⟨g + 1 + 1, 0, none⟩ (.int .i64 (q' : Int))).setCell ⟨g, q', none⟩ (.int .u8 45)) g ((bzer a ++ D).set q' 45) := BBlk.set_ (hbk.only ((only_refl (g + 1 + 1) wr).set_ (p := ⟨g + 1 + 1, 0, none⟩) (.inl rfl) (.int .i64 (q' : Int))) (by omega)) (i := q') 45
     have hcv := run_bstr hbk2 q' (N - q') (N - q') (by rw [List.length_set, HLn.out]; omega)
     have e1 : ((bzer a ++ D).set q' 45).drop q' = 45 :: D.drop i := by
      rw [set_drop _ (by rw [HLn.out]; omega), hq.out, drop_mid]
     rw [e1] at hcv
     clear q0 e1
     generalize (bg (bzer a ++ D) q').toNat = qq at *
     gi_wp2
     have hD3 : ((wr.setCell ⟨g + 1 + 1, 0, none⟩ (.int .i64 (q' : Int))).setCell ⟨g, q', none⟩ (.int .u8 45)).heap[W0.heap.size]? = some (.deferred (some [])) := by
      rw [Below.heap_setCell _ _ _ _ (by show _ ≠ g; have := HSZ.out; omega), Below.heap_setCell _ _ _ _ (by show _ ≠ g + 1 + 1; have := HSZ.out; omega)]
      exact hDr
     have hwb3 : Below w.heap.size w ((wr.setCell ⟨g + 1 + 1, 0, none⟩ (.int .i64 (q' : Int))).setCell ⟨g, q', none⟩ (.int .u8 45)) := bs' (bs' hwb (by show w.heap.size ≤ g + 1 + 1; omega) _) (by show w.heap.size ≤ g; omega) _
     refine ⟨by simp, .inl ⟨_, _, rfl, run_takeDeferred hD3, ?_⟩⟩
     refine ⟨_, results_tmp rfl _ _ _, D.drop i, ?_, ?_, HPl.out, HLd.out, bo hwb3 (only_putObj _ _ _) (by have := HSZ.out; omega)⟩
     ·show Ending.returned (.string ⟨(45 :: D.drop i).toArray⟩) = _
      rw [HNG.out]; rfl
     ·intro e
      have := HLd.out
      rw [e] at this
      have h2 : dnum [] = 0 := rfl
      omega
    ·have HNG := Hi hng
     have hcv := run_bstr hbk q (N - q) (N - q) (by rw [HLn.out]; omega)
     rw [hq.out, drop_mid, ← hq.out] at hcv
     gi_wp2
     refine ⟨by simp, .inl ⟨_, _, rfl, run_takeDeferred hDr, ?_⟩⟩
     refine ⟨_, results_tmp rfl _ _ _, D.drop i, ?_, ?_, HPl.out, HLd.out, bo hwb (only_putObj _ _ _) (by have := HSZ.out; omega)⟩
     ·show Ending.returned (.string ⟨(D.drop i).toArray⟩) = _
      rw [HNG.out]; rfl
     ·intro e
      have := HLd.out
      rw [e] at this
      have h2 : dnum [] = 0 := rfl
      omega
end Go.Proofs.YtgljdfblgpdaaaaGreatDoor
