import Derived.Test.YtgljdfblgpdaaaaGreatDoorTyNumWMul
import Derived.Test.YtgljdfblgpdaaaaGreatDoorTyNumTxt
set_option linter.unusedSimpArgs false
set_option linter.unusedVariables false
set_option maxRecDepth 100000
set_option maxHeartbeats 4000000
namespace Go.Proofs.YtgljdfblgpdaaaaGreatDoor
open Go.RowKit Go.Shelf
def bwv (l : List UInt8) : List Value := l.map fun x => Value.int .u8 (x.toNat : Int)
def OwnRB (base : Nat) (W : World) (v : Value) (l : List UInt8) : Prop := W.ownsRow base 5 1 v l.length (bwv l)
theorem OwnRB.nil (base : Nat) (W : World) : OwnRB base W (.slice none 0 0) [] := World.ownsRow_nil _ _ _ _
theorem OwnRB.below {base : Nat} {W W' : World} {v : Value} {l : List UInt8} (h : OwnRB base W v l) (hb : Below W.heap.size W W') : OwnRB base W' v l :=
  World.ownsRow.kept (row := none) h ⟨hb.os, hb.tape, hb.output, hb.size, fun k hk _ => hb.block k hk⟩ (by cases hv : v.ownBlock <;> simp)
theorem OwnRB.only {base : Nat} {W W' : World} {v : Value} {l : List UInt8} {q : Nat} (h : OwnRB base W v l) (hO : Only q W W') (hq : ∀ k, v.ownBlock = some k → k ≠ q) : OwnRB base W' v l :=
  World.ownsRow.kept h hO (by
    cases hv : v.ownBlock with
    | none => exact .inl rfl
    | some k => exact .inr (fun e => hq k hv (by injection e)))
theorem OwnRB.slice {base : Nat} {W : World} {v : Value} {l : List UInt8} (h : OwnRB base W v l) : ∃ A c, v = .slice A l.length c := by
  rcases h.2 with ⟨rfl, h1⟩ | ⟨g, cap, cur, rfl, h1, h2, h3, h4, h5, h6⟩
  · exact ⟨none, 0, by rw [h1]⟩
  · exact ⟨_, cap, rfl⟩
theorem own_block_leb {base : Nat} {W : World} {v : Value} {l : List UInt8} (h : OwnRB base W v l) : ∀ q, v.ownBlock = some q → base ≤ q ∧ q < W.heap.size := by
  rcases h.2 with ⟨rfl, _⟩ | ⟨g, cap, cur, rfl, h1, h2, _⟩
  · intro q hq; simp [Value.ownBlock] at hq
  · intro q hq
    have hlt := (Array.getElem?_eq_some_iff.1 h2).1
    simp [Value.ownBlock] at hq
    omega
theorem OwnRB.some_ {base : Nat} {W : World} {v : Value} {l : List UInt8} (h : OwnRB base W v l) (h0 : 0 < l.length) : ∃ g cap, v = .slice (some ⟨g, 0, none⟩) l.length cap ∧ base ≤ g ∧ g < W.heap.size ∧ ∀ j, j < l.length → W.cell? ⟨g, j, none⟩ = some (.int .u8 ((bg l j).toNat : Int)) := by
  rcases h.2 with ⟨rfl, h1⟩ | ⟨g, cap, cur, rfl, h1, h2, h3, h4, h5, h6⟩
  · omega
  · have hlt : g < W.heap.size := (Array.getElem?_eq_some_iff.1 h2).1
    refine ⟨g, cap, rfl, h1, hlt, fun j hj => ?_⟩
    rw [cell_of_row W g _ _ _ (0, 0) h2]
    have e1 : (cur.toList.take (l.length * 1))[j]? = some (.int .u8 ((bg l j).toNat : Int)) := by
      rw [h6, bwv, List.getElem?_map, List.getElem?_eq_getElem hj, bg_at hj]; rfl
    rw [List.getElem?_take_of_lt (by omega)] at e1
    simpa using e1
theorem info_vb : ∃ i, Tryz.prog.info? 5 = some i ∧ i.zero = some (.int .u8 0) ∧ i.size = 1 ∧ i.bytes = 1 := by
  have h := info_b
  cases hi : Tryz.prog.info? 5 with
  | none => rw [hi] at h; cases h
  | some i => rw [hi] at h; simp only [Option.map_some, Option.some.injEq, Prod.mk.injEq] at h; exact ⟨i, rfl, h.1, h.2.1, h.2.2⟩
theorem news_one {W : World} {g : Nat} {v : Value} (h : W.cell? ⟨g, 0, none⟩ = some v) :
    ∀ j u, ([v] : List Value)[j]? = some u → W.cell? ((⟨g, 0, none⟩ : Addr).add j) = some u := fun j u hu => by
  rcases j with _ | j
  · rw [addr_add]
    simp at hu
    rw [← hu]
    exact h
  · simp at hu
theorem one_b (z : Int) : ∀ u ∈ ([Value.int .u8 z] : List Value), u.oneCell' = true := fun u hu => by
  rw [List.mem_singleton.1 hu]; rfl
def slen : Value → Nat
  | .slice _ n _ => n
  | _ => 0
theorem ten_pow (n : Nat) : BB n ≤ 10 ^ (10 * n) := by
  rw [Nat.pow_mul]
  exact Nat.pow_le_pow_left (by decide) n
def back (k N : Nat) : List UInt8 := (dgs k N).reverse
theorem back_length (k N : Nat) : (back k N).length = k := by rw [back, List.length_reverse, dgs_length]
theorem back_succ (k N : Nat) : back (k + 1) N = back k N ++ [UInt8.ofNat (48 + N / 10 ^ k % 10)] := by
  unfold back
  rw [Nat.add_comm k 1, dgs_add 1 k N]
  simp [dgs]
theorem dgs_plain {k V : Nat} (h1 : V / 10 ^ k = 0) (h2 : k = 0 ∨ 0 < V / 10 ^ (k - 1)) (hV : 0 < V) : dgs k V ≠ [] ∧ Plain (dgs k V) ∧ dnum (dgs k V) = V := by
  have hp : 0 < 10 ^ k := Nat.pow_pos (by decide)
  have hlt : V < 10 ^ k := by
    rcases Nat.lt_or_ge V (10 ^ k) with h | h
    · exact h
    · have := Nat.div_pos h hp
      omega
  rcases Nat.eq_zero_or_pos k with rfl | hk
  · simp at hlt; omega
  obtain ⟨j, rfl⟩ : ∃ j, k = j + 1 := ⟨k - 1, by omega⟩
  have h2' : 0 < V / 10 ^ j := by
    rcases h2 with h | h
    · omega
    · exact h
  have hd : V / 10 ^ j < 10 := Nat.div_lt_of_lt_mul (by rw [Nat.pow_succ] at hlt; omega)
  have e : dgs (j + 1) V = UInt8.ofNat (48 + V / 10 ^ j) :: dgs j V := by
    rw [Nat.add_comm j 1, dgs_add 1 j V]
    simp [dgs, Nat.mod_eq_of_lt hd]
  refine ⟨by rw [e]; simp, ⟨dgs_is _ _, fun h => ?_⟩, by rw [dnum_dgs, Nat.mod_eq_of_lt hlt]⟩
  rw [e, List.head?_cons, Option.some.injEq] at h
  have h3 := congrArg UInt8.toNat h
  rw [UInt8.toNat_ofNat', Nat.mod_eq_of_lt (by omega)] at h3
  have h4 : (48 : UInt8).toNat = 48 := rfl
  omega
theorem bset {R : List UInt8} {i M : Nat} (hM : R.length = M) (hi : i < M) : (R.take i ++ bzer (M - i)).set i (bg R i) = R.take (i + 1) ++ bzer (M - (i + 1)) := by
  have e1 : (R.take i).length = i := by rw [List.length_take]; omega
  rw [List.set_append_right _ _ (by omega), e1, Nat.sub_self, List.take_succ_eq_append_getElem (by omega), ← bg_at (by omega), show M - i = (M - (i + 1)) + 1 from by omega]
  simp [bzer, List.replicate_succ]
theorem bg_rev {R : List UInt8} {i M : Nat} (hM : R.length = M) (hi : i < M) : bg R (M - 1 - i) = bg R.reverse i := by
  rw [bg_at (by omega), bg_at (by simp; omega), List.getElem_reverse]
  congr 1
  omega
theorem ten_step {x r T Q R v : Nat} (hT : T = x + 4294967296 * r) (hQ : T = 10 * Q + R) : x + 4294967296 * (v * 10 + r) = (Q + 4294967296 * v) * 10 + R := short_step hT hQ
theorem seg_front (l : List Nat) {j : Nat} (h : j < l.length) : seg l j (l.length - j) = gd l j :: seg l (j + 1) (l.length - (j + 1)) := by
  unfold seg
  rw [List.drop_eq_getElem_cons h, show l.length - j = (l.length - (j + 1)) + 1 from by omega, List.take_succ_cons, ← gd_at h]
theorem zer_set (j : Nat) (Q : Nat) (S : List Nat) : (zer (j + 1) ++ S).set j Q = zer j ++ (Q :: S) := by
  have e : zer (j + 1) = zer j ++ [0] := by
    exact zer_append j 1
  rw [e, List.append_assoc, List.set_append_right _ _ (by rw [zer_length]; exact Nat.le_refl _), zer_length, Nat.sub_self]
  rfl
set_option maxRecDepth 100000 in
set_option maxHeartbeats 400000 in
theorem RPrint_zero (w : World) (A : Option Addr) (c : Nat) :
    Calls Tryz.prog 123 #[.agg #[.bool false, .slice A 0 c]] w fun e w' => e = .returned (.string ⟨#[48]⟩) ∧ Below w.heap.size w w' := by
  go_enter Tryz.func123, Tryz.ntmps123
  go_wp2_with fail
  refine (RIs_any false A 0 c [] _ rfl (by decide) (WS.nil_ _ _)).mono ?_
  rintro e w1 ⟨rfl, hb1⟩
  rw [show isB false [] = true from rfl]
  have hbx := (Box2.new w (.bool false) (.slice A 0 c)).below hb1
  have x0 := hbx.cell0
  have x1 := hbx.cell1
  go_wp2_with fail
  go_ret
  exact ⟨rfl, bt (ba (b0 _) _) hb1⟩
set_option maxRecDepth 100000 in
set_option maxHeartbeats 2000000 in
theorem RPrint_pos (w : World) (ng : Bool) (A : Option Addr) (c : Nat) (l0 : List Nat) (h0 : 0 < l0.length) (hm : l0.length ≤ 10000) (hl : WS w A l0) (hB : isB ng l0 = true) :
    Calls Tryz.prog 123 #[.agg #[.bool ng, .slice A l0.length c]] w (PrR w ng (val l0)) := by
  have HB := Lib.hid hB
  have hT0 := isB_top hB
  obtain ⟨i0, hi0, hz0, hz1, hz2⟩ := info_vb
  have hz01 : ((l0.length : Int) == 0) = false := beq_eq_false_iff_ne.2 (by omega)
  have HV0 := Lib.hid (val_pos hT0 h0)
  have HVL : Hid (val l0 < 10 ^ (10 * l0.length)) := Lib.hid (Nat.lt_of_lt_of_le (val_lt hl.1) (ten_pow _))
  obtain ⟨V, hV⟩ : ∃ V, V = val l0 := ⟨_, rfl⟩
  have HVE := Lib.hid hV
  clear hB hV
  go_enter Tryz.func123, Tryz.ntmps123
  go_wp2_with fail
  refine (RIs_any ng A l0.length c l0 _ rfl (by omega) (hl.below (ba (b0 _) _))).mono ?_
  rintro e W1 ⟨rfl, hb1⟩
  rw [HB.out]
  have hbx := (Box2.new w (.bool ng) (.slice A l0.length c)).below hb1
  have x0 := hbx.cell0
  have x1 := hbx.cell1
  have hW1 := bt (ba (b0 w) (.cells #[.bool ng, .slice A l0.length c] 24)) hb1
  have hl1 := hl.below hW1
  go_wp2_with fail
  have hmk0 := @run_mk
  go_loopw [3, 4] (fun bv wv wr => ∃ (k : Nat) (B : Option Addr) (d : Nat) (l : List Nat), wv = .slice B l.length d ∧ l.length ≤ 10000 ∧ WS wr B l ∧ Top l ∧ Hid (val l = V / 10 ^ k) ∧ Hid (k = 0 ∨ 0 < V / 10 ^ (k - 1)) ∧ k ≤ 10 * l0.length ∧ OwnRB W1.heap.size wr bv (back k V) ∧ Below W1.heap.size W1 wr) (fun bv _ _ => 10 * l0.length - slen bv)
  case atStart => exact ⟨0, A, c, l0, rfl, hm, hl1, hT0, Lib.hid (by rw [HVE.out]; simp), Lib.hid (.inl rfl), by omega, OwnRB.nil _ _, b0 _⟩
  case round =>
    obtain ⟨k, B, d, l, rfl, hlm, hws, hT, hvl, hk0, hk, hown, hbl⟩ := hrel
    obtain ⟨wo, rfl⟩ : ∃ x : World, x = wr := ⟨_, rfl⟩
    obtain ⟨C, cap, hbve⟩ := hown.slice
    rw [back_length] at hbve
    subst hbve
    have HOWN := Lib.hid hown
    clear hmk0
    by_cases hll : 0 < l.length
    · have hlli : (0 : Int) < (l.length : Int) := by omega
      have hmk := run_mk (l.length : Int) l.length rfl (by omega) wo
      obtain ⟨bb, off, hBe, h8, h9⟩ := hws.at_ hll
      subst hBe
      clear h8 h9
      have HWS := Lib.hid hws
      have HTL := Lib.hid hT
      have hoffg := hws.off (Nat.le_refl _)
      clear hown hT hws
      go_wp2_with fail
      go_loopw [5, 7] (fun rv iv wr => ∃ (j : Nat) (S : List Nat) (r : Nat), j ≤ l.length ∧ iv = .int .i64 ((j : Int) - 1) ∧ rv = .int .u64 (r : Int) ∧ r < 10 ∧ S.length = l.length - j ∧ Hid (val (seg l j (l.length - j)) = val S * 10 + r) ∧ Blk wr wo.heap.size (zer j ++ S) ∧ Only wo.heap.size wo wr) (fun _ iv _ => (intOf iv + 1).toNat)
      case atStart => exact ⟨l.length, [], 0, Nat.le_refl _, rfl, rfl, by omega, by simp, Lib.hid (by simp [seg_zero, val]), by rw [List.append_nil]; exact Blk.new wo _ (zer_lt _), Only.mono (ba (b0 _) _)⟩
      case round =>
        obtain ⟨j, S, r, hj, rfl, rfl, hr, hS, hv, hb, hO⟩ := hrel
        rcases Nat.eq_zero_or_pos j with rfl | hj0
        · have hvS : val l = val S * 10 + r := by
            have := hv.out
            unfold seg at this
            rwa [List.drop_zero, Nat.sub_zero, List.take_length] at this
          have hr2 : r = val l % 10 := by omega
          have hq2 : val S = val l / 10 := by omega
          obtain ⟨z, hz⟩ : ∃ z, z = 48 + r := ⟨_, rfl⟩
          have hzi : (48 : Int) + (r : Int) = (z : Int) := by omega
          have hzl : z < 256 := by omega
          have hzw : IntKind.u8.wrap (z : Int) = (z : Int) := by rw [IntKind.wrap_u8]; omega
          have hzm : (z : Int) % 256 = (z : Int) := by omega
          have HZ : Hid (([Value.int .u8 (z : Int)] : List Value) = bwv [UInt8.ofNat (48 + V / 10 ^ k % 10)]) := Lib.hid (by
            have e1 : (UInt8.ofNat (48 + V / 10 ^ k % 10)).toNat = z := by
              rw [UInt8.toNat_ofNat', Nat.mod_eq_of_lt (by omega), ← hvl.out, ← hr2, hz]
            simp only [bwv, List.map_cons, List.map_nil, e1])
          rw [show zer 0 = [] from rfl, List.nil_append] at hb
          have hSl : S.length = l.length := by omega
          have hown2 := HOWN.out.only hO (fun q hq => by have := (own_block_leb HOWN.out q hq).2; omega)
          have hob := own_block_leb HOWN.out
          have hown3 := OwnRB.below hown2 (ba (b0 wr) (.cells #[.int .u8 (z : Int)] 5))
          have HROW : Hid (World.ownsRow (wr.alloc (.cells #[.int .u8 (z : Int)] 5)) W1.heap.size 5 1 (.slice C k cap) k (bwv (back k V))) := Lib.hid (by
            have := hown3
            unfold OwnRB at this
            rwa [back_length] at this)
          have hcz : (wr.alloc (.cells #[.int .u8 (z : Int)] 5)).cell? ⟨wr.heap.size, 0, none⟩ = some (.int .u8 (z : Int)) := by
            rw [cell_of_row _ wr.heap.size 0 _ _ (0, 0) (heap_alloc_new wr _)]; rfl
          have HC := Lib.hid hcz
          have HB2 := Lib.hid (hb.below (ba (b0 wr) (.cells #[.int .u8 (z : Int)] 5)))
          have hbe2 : Below W1.heap.size W1 wr := bo hbl hO hbl.size
          have hO2 := ba hbe2 (.cells #[.int .u8 (z : Int)] 5)
          have hO2s := hO2.size
          have hws1 := hbl.size
          have hOs := hO.size
          have HO2 := Lib.hid hO2
          have HOB : Hid (∀ q, (Value.slice C k cap).ownBlock = some q → W1.heap.size ≤ q ∧ q < wo.heap.size) := Lib.hid hob
          have HSL := Lib.hid hSl
          have HQ2 := Lib.hid hq2
          have hSm : S.length ≤ 4000000 := by omega
          have hwlt : wo.heap.size < wr.heap.size := hb.lt
          clear hz hr2 hq2 hvS hown2 hown3 hob hcz hb hO2 hbe2 hSl hS
          go_wp2_with (at_builtin; refine wpList_append_lies _ rfl (.tmp 49) (.tmp 53) _ rfl W1.heap.size 5 i0 _ 1 1 Tryz.underlying113 hi0 hz0 hz1 hz2 rfl (by omega) (.slice C k cap) k (bwv (back k V)) rfl HROW.out ⟨wr.heap.size, 0, none⟩ 1 1 [Value.int .u8 (z : Int)] rfl (by simp) (news_one HC.out) (one_b z) (by omega) (by simp only [maxLen]; omega) (by omega) (by omega) _ rfl ?_; intro g cap2 w3 hown hgrow hat hlt3)
          have hO3 := HO2.out.grown hgrow hO2s (fun q hq => (HOB.out q hq).1)
          have hbS : Blk w3 wo.heap.size S := ⟨HB2.out.1, (hgrow.block _ (by rw [World.size_alloc]; omega) (fun e => by have := (HOB.out _ e.symm).2; omega)).trans HB2.out.2⟩
          have hwsS := hbS.ws (o := 0) (n := l.length) (by rw [HSL.out]; omega)
          rw [List.drop_zero, ← HSL.out, List.take_length] at hwsS
          have hown' : OwnRB W1.heap.size w3 (.slice (some ⟨g, 0, none⟩) (k + 1) cap2) (back (k + 1) V) := by
            unfold OwnRB
            rw [back_length, back_succ, show bwv (back k V ++ [UInt8.ofNat (48 + V / 10 ^ k % 10)]) = bwv (back k V) ++ bwv [UInt8.ofNat (48 + V / 10 ^ k % 10)] from by simp [bwv], ← HZ.out]
            exact hown
          have HOWN2 := Lib.hid hown'
          have HWSS := Lib.hid hwsS
          clear hown hown' hwsS hbS hgrow hat
          have hTR := Rtrim_any (some ⟨wo.heap.size, 0, none⟩) S.length l.length S w3 rfl hSm (by rw [HSL.out]; exact Nat.le_refl _) HWSS.out
          rw [HSL.out] at hTR
          have HTR := Lib.hid hTR
          clear hTR
          go_wp2_with fail
          refine HTR.out.mono ?_
          rintro e2 w4 ⟨⟨k', hk', rfl, ht1, ht2⟩, rfl⟩
          obtain ⟨l', hl'⟩ : ∃ l', l' = S.take k' := ⟨_, rfl⟩
          have e1 : k' = l'.length := by rw [hl', List.length_take, HSL.out]; omega
          have hT' : Top l' := by
            intro h0
            rw [hl', gd_take (by rw [← hl']; omega), ← hl', ← e1]
            exact ht1 (by omega)
          have hv' : val l' = V / 10 ^ (k + 1) := by
            rw [hl', val_take_top S k' ht2, HQ2.out, hvl.out, Nat.div_div_eq_div_mul, Nat.pow_succ]
          have hws' : WS w3 (some ⟨wo.heap.size, 0, none⟩) l' := by rw [hl']; exact HWSS.out.take k'
          have hll' : l'.length ≤ 10000 := by omega
          have HV' := Lib.hid hv'
          have HE1 := Lib.hid e1
          clear ht1 ht2 hl' hv' hk' e1
          rw [HE1.out]
          have hvp : 0 < V / 10 ^ k := by rw [← hvl.out]; exact val_pos HTL.out hll
          have hklt : k < 10 * l0.length := by
            rcases Nat.lt_or_ge k (10 * l0.length) with h | h
            · exact h
            · exfalso
              have h1 : 10 ^ (10 * l0.length) ≤ 10 ^ k := Nat.pow_le_pow_right (by decide) h
              have h2 := HVL.out
              rw [← HVE.out] at h2
              have h3 : V / 10 ^ k = 0 := Nat.div_eq_of_lt (by omega)
              omega
          have HVP := Lib.hid hvp
          clear hvp
          go_wp2_with fail
          go_roundw
          case rel =>
            exact ⟨k + 1, _, _, l', rfl, hll', hws', hT', HV', Lib.hid (.inr HVP.out), hklt, HOWN2.out, hO3⟩
          case measure => simp [slen]; omega
        · obtain ⟨j', rfl⟩ : ∃ j', j = j' + 1 := ⟨j - 1, by omega⟩
          have hwsn := HWS.out.only hO hoffg
          have hc1 := ws_cell hwsn (show j' < l.length by omega)
          have hx := hwsn.lt j'
          have hlen : (zer (j' + 1) ++ S).length = l.length := by rw [List.length_append, zer_length]; omega
          have hc2 := hb.cell (i := j') (by omega)
          have hf2 := hb.free j'
          have HSEG := Lib.hid (seg_front l (show j' < l.length by omega))
          generalize gd l j' = x at *
          generalize gd (zer (j' + 1) ++ S) j' = y at *
          obtain ⟨T, hT⟩ : ∃ T, T = x + 4294967296 * r := ⟨_, rfl⟩
          have hor : bits BinOp.or IntKind.u64 ((r : Int) * 4294967296) (x : Int) = (T : Int) := by rw [hT]; exact or64' x r hx (by omega)
          obtain ⟨Q, hQ⟩ : ∃ Q, Q = T / 10 := ⟨_, rfl⟩
          obtain ⟨R, hR⟩ : ∃ R, R = T % 10 := ⟨_, rfl⟩
          have hTQ : T = 10 * Q + R := by rw [hQ, hR]; exact (Nat.div_add_mod T 10).symm
          have hRy : R < 10 := by omega
          have hQl : Q < 4294967296 := by omega
          have hd1 : (T : Int) / 10 = (Q : Int) := by omega
          have hd2 : (T : Int).tdiv 10 = (Q : Int) := by rw [Int.tdiv_eq_ediv_of_nonneg (by omega)]; exact hd1
          have hm1 : (T : Int) % 10 = (R : Int) := by omega
          have hm2 : (T : Int).tmod 10 = (R : Int) := by rw [Int.tmod_eq_emod_of_nonneg (by omega)]; exact hm1
          have hTl : T < 18446744073709551616 := by omega
          have HT := Lib.hid hT
          have HTQ := Lib.hid hTQ
          have HS := Lib.hid hS
          have HB3 := Lib.hid hb
          clear hT hTQ hQ hR hS hb hwsn hlen
          go_wp2_with fail
          go_roundw
          case rel =>
            refine ⟨j', Q :: S, R, by omega, rfl, rfl, hRy, by simp [HS.out]; omega, ?_, ?_, hO.set_ (.inl rfl) _⟩
            · refine Lib.hid ?_
              rw [HSEG.out]
              simp only [val]
              rw [hv.out]
              exact ten_step HT.out HTQ.out
            · have h := HB3.out.set_ (i := j') hQl
              rw [zer_set] at h
              have em : ((Q : Int) % 4294967296) = (Q : Int) := by omega
              first | exact h | (rw [em]; exact h)
          case measure => simp [intOf]
    · have hl0' : l.length = 0 := by omega
      have hnll : ¬ (0 : Int) < (l.length : Int) := by omega
      have hVk : V / 10 ^ k = 0 := by rw [← hvl.out, List.eq_nil_of_length_eq_zero hl0']; rfl
      have hpl := dgs_plain hVk hk0.out (by rw [HVE.out]; exact HV0.out)
      have HPL := Lib.hid hpl
      have hk1 : 0 < k := by
        rcases Nat.eq_zero_or_pos k with h | h
        · subst h; exact absurd rfl hpl.1
        · exact h
      have hbx2 := hbx.below hbl
      have y0 := hbx2.cell0
      have y1 := hbx2.cell1
      clear hpl hVk hws hT hown x0 x1 hl0'
      rcases Bool.eq_false_or_eq_true ng with hng | hng
      · subst hng
        have hown3 := OwnRB.below HOWN.out (ba (b0 wo) (.cells #[.int .u8 45] 5))
        have HROW : Hid (World.ownsRow (wo.alloc (.cells #[.int .u8 45] 5)) W1.heap.size 5 1 (.slice C k cap) k (bwv (back k V))) := Lib.hid (by
          have := hown3
          unfold OwnRB at this
          rwa [back_length] at this)
        have hcz : (wo.alloc (.cells #[.int .u8 45] 5)).cell? ⟨wo.heap.size, 0, none⟩ = some (.int .u8 45) := by
          rw [cell_of_row _ wo.heap.size 0 _ _ (0, 0) (heap_alloc_new wo _)]; rfl
        have HC := Lib.hid hcz
        have hO2 := ba hbl (.cells #[.int .u8 45] 5)
        have hO2s := hO2.size
        have HO2 := Lib.hid hO2
        have HOB : Hid (∀ q, (Value.slice C k cap).ownBlock = some q → W1.heap.size ≤ q) := Lib.hid (fun q hq => (own_block_leb HOWN.out q hq).1)
        clear hown3 hcz hO2
        go_wp2_with (at_builtin; refine wpList_append_lies _ rfl (.tmp 59) (.tmp 60) _ rfl W1.heap.size 5 i0 _ 1 1 Tryz.underlying113 hi0 hz0 hz1 hz2 rfl (by omega) (.slice C k cap) k (bwv (back k V)) rfl HROW.out ⟨wo.heap.size, 0, none⟩ 1 1 [Value.int .u8 45] rfl (by simp) (news_one HC.out) (one_b 45) (by omega) (by simp only [maxLen]; omega) (by omega) (by omega) _ rfl ?_; intro g cap2 w3 hown hgrow hat hlt3)
        have hO3 := HO2.out.grown hgrow hO2s HOB.out
        have hown' : OwnRB W1.heap.size w3 (.slice (some ⟨g, 0, none⟩) (k + 1) cap2) (back k V ++ [45]) := by
          unfold OwnRB
          rw [List.length_append, back_length, show bwv (back k V ++ [45]) = bwv (back k V) ++ [Value.int .u8 45] from by simp [bwv]]
          exact hown
        clear hown hgrow hat y0 y1
        obtain ⟨R, hR⟩ : ∃ R, R = back k V ++ [45] := ⟨_, rfl⟩
        obtain ⟨M, hM⟩ : ∃ M, M = k + 1 := ⟨_, rfl⟩
        have hRM : R.length = M := by rw [hR, hM]; simp [back_length]
        have HREV : Hid (R.reverse = [45] ++ dgs k V) := Lib.hid (by rw [hR]; simp [back])
        have hown4 := hown'
        rw [← hR] at hown4
        rw [← hM] at hown4 ⊢
        obtain ⟨g2, cap3, hse, hg1, hg2, hcells⟩ := OwnRB.some_ hown4 (by omega)
        rw [hRM] at hse
        injection hse with hs1 hs2 hs3
        injection hs1 with hs1
        injection hs1 with hs1
        subst hs1 hs3
        have HCELLS := Lib.hid hcells
        have hRr : R.reverse.length = M := by rw [List.length_reverse]; exact hRM
        have hM0 : M ≤ 200000 := by omega
        have HRM := Lib.hid hRM
        have HRR := Lib.hid hRr
        have hmk2 := run_mkb ((k : Int) + 1) M (by omega) (by omega) w3
        have hbel := hO3
        have hbels := hbel.size
        clear hcells hown4 hR hM hRM hRr
        go_wp2_with fail
        go_loopw [10] (fun iv wr => ∃ i : Nat, i ≤ M ∧ iv = .int .i64 (i : Int) ∧ BBlk wr w3.heap.size (R.reverse.take i ++ bzer (M - i)) ∧ Only w3.heap.size w3 wr) (fun iv _ => M - (intOf iv).toNat)
        case atStart => exact ⟨0, Nat.zero_le _, rfl, by rw [List.take_zero, List.nil_append, Nat.sub_zero]; exact BBlk.new w3 _, Only.mono (ba (b0 _) _)⟩
        case round =>
          obtain ⟨i, hi, rfl, hb3, hO3⟩ := hrel
          by_cases hlt : i < M
          · have hlti : (i : Int) < (M : Int) := by omega
            obtain ⟨t, ht⟩ : ∃ t, t = M - 1 - i := ⟨_, rfl⟩
            have hti : (M : Int) - 1 - (i : Int) = (t : Int) := by omega
            have htM : (t : Int) < (M : Int) := by omega
            have hc := HCELLS.out t (by rw [HRM.out]; omega)
            rw [show bg R t = bg R.reverse i from by rw [ht]; exact bg_rev HRM.out hlt] at hc
            have hc2 := ((ocell hO3).1 g t hg2 (by omega)).trans hc
            have hlen3 : (R.reverse.take i ++ bzer (M - i)).length = M := by rw [List.length_append, List.length_take, bzer_length, HRR.out]; omega
            have hc3 := hb3.cell (i := i) (by omega)
            have hf3 := hb3.free i
            have HB3 := Lib.hid hb3
            have HSET := Lib.hid (bset HRR.out hlt)
            generalize (bg (R.reverse.take i ++ bzer (M - i)) i).toNat = qq at *
            generalize bg R.reverse i = xb at *
            have hxb : xb.toNat < 256 := xb.toNat_lt
            clear ht hc hb3 hlen3
            go_wp2_with fail
            go_roundw
            case rel =>
              refine ⟨i + 1, by omega, by go_num, ?_, hO3.set_ (.inl rfl) _⟩
              have h := HB3.out.set_ (i := i) xb
              rw [HSET.out] at h
              exact h
            case measure => simp [intOf]; omega
          · have hei : i = M := by omega
            subst hei
            have hnlt : ¬ (i : Int) < (i : Int) := by omega
            rw [Nat.sub_self, show bzer 0 = [] from rfl, List.append_nil, List.take_of_length_le (by rw [HRR.out]; exact Nat.le_refl _)] at hb3
            have hcv := run_bstr hb3 0 i i (by rw [HRR.out]; omega)
            rw [List.drop_zero, HREV.out] at hcv
            clear hb3
            go_wp2_with fail
            go_ret
            exact ⟨dgs k V, rfl, HPL.out.1, HPL.out.2.1, HPL.out.2.2.trans HVE.out, bo (bt hW1 hbel) hO3 (by have := hW1.size; omega)⟩
      · subst hng
        obtain ⟨R, hR⟩ : ∃ R, R = back k V := ⟨_, rfl⟩
        obtain ⟨M, hM⟩ : ∃ M, M = k := ⟨_, rfl⟩
        have hRM : R.length = M := by rw [hR, hM]; simp [back_length]
        have HREV : Hid (R.reverse = [] ++ dgs k V) := Lib.hid (by rw [hR]; simp [back])
        have hown4 := HOWN.out
        rw [← hR] at hown4
        rw [← hM] at hown4 ⊢
        obtain ⟨g2, cap3, hse, hg1, hg2, hcells⟩ := OwnRB.some_ hown4 (by omega)
        rw [hRM] at hse
        injection hse with hs1 hs2 hs3
        subst hs1 hs3
        have HCELLS := Lib.hid hcells
        have hRr : R.reverse.length = M := by rw [List.length_reverse]; exact hRM
        have hM0 : M ≤ 200000 := by omega
        have HRM := Lib.hid hRM
        have HRR := Lib.hid hRr
        have hmk2 := run_mkb (M : Int) M rfl (by omega) wo
        have hbel := hbl
        have hbels := hbel.size
        clear hcells hown4 hR hM hRM hRr
        go_wp2_with fail
        go_loopw [10] (fun iv wr => ∃ i : Nat, i ≤ M ∧ iv = .int .i64 (i : Int) ∧ BBlk wr wo.heap.size (R.reverse.take i ++ bzer (M - i)) ∧ Only wo.heap.size wo wr) (fun iv _ => M - (intOf iv).toNat)
        case atStart => exact ⟨0, Nat.zero_le _, rfl, by rw [List.take_zero, List.nil_append, Nat.sub_zero]; exact BBlk.new wo _, Only.mono (ba (b0 _) _)⟩
        case round =>
          obtain ⟨i, hi, rfl, hb3, hO3⟩ := hrel
          by_cases hlt : i < M
          · have hlti : (i : Int) < (M : Int) := by omega
            obtain ⟨t, ht⟩ : ∃ t, t = M - 1 - i := ⟨_, rfl⟩
            have hti : (M : Int) - 1 - (i : Int) = (t : Int) := by omega
            have htM : (t : Int) < (M : Int) := by omega
            have hc := HCELLS.out t (by rw [HRM.out]; omega)
            rw [show bg R t = bg R.reverse i from by rw [ht]; exact bg_rev HRM.out hlt] at hc
            have hc2 := ((ocell hO3).1 g2 t hg2 (by omega)).trans hc
            have hlen3 : (R.reverse.take i ++ bzer (M - i)).length = M := by rw [List.length_append, List.length_take, bzer_length, HRR.out]; omega
            have hc3 := hb3.cell (i := i) (by omega)
            have hf3 := hb3.free i
            have HB3 := Lib.hid hb3
            have HSET := Lib.hid (bset HRR.out hlt)
            generalize (bg (R.reverse.take i ++ bzer (M - i)) i).toNat = qq at *
            generalize bg R.reverse i = xb at *
            have hxb : xb.toNat < 256 := xb.toNat_lt
            clear ht hc hb3 hlen3
            go_wp2_with fail
            go_roundw
            case rel =>
              refine ⟨i + 1, by omega, by go_num, ?_, hO3.set_ (.inl rfl) _⟩
              have h := HB3.out.set_ (i := i) xb
              rw [HSET.out] at h
              exact h
            case measure => simp [intOf]; omega
          · have hei : i = M := by omega
            subst hei
            have hnlt : ¬ (i : Int) < (i : Int) := by omega
            rw [Nat.sub_self, show bzer 0 = [] from rfl, List.append_nil, List.take_of_length_le (by rw [HRR.out]; exact Nat.le_refl _)] at hb3
            have hcv := run_bstr hb3 0 i i (by rw [HRR.out]; omega)
            rw [List.drop_zero, HREV.out] at hcv
            clear hb3
            go_wp2_with fail
            go_ret
            exact ⟨dgs k V, rfl, HPL.out.1, HPL.out.2.1, HPL.out.2.2.trans HVE.out, bo (bt hW1 hbel) hO3 (by have := hW1.size; omega)⟩
end Go.Proofs.YtgljdfblgpdaaaaGreatDoor
