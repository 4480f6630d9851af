/- Euclid's algorithm, of numbers of any length: run. -/
import Derived.Test.YtgljdfblgpdaaaaGreatDoorNumTurn
import Derived.Test.YtgljdfblgpdaaaaGreatDoorNumGuess
set_option linter.unusedSimpArgs false
set_option linter.unusedVariables false
namespace Go.Proofs.YtgljdfblgpdaaaaGreatDoor
open Go.RowKit

theorem guess_ts {x y p q u v n : Nat} {odd : Bool} (hq : 0 < q) (hx2 : x < 2 ^ (n + 62)) (h : ∃ x' y', GI (x / 2 ^ n) (y / 2 ^ n) x' y' p q u v odd ∧ v ≤ y' ∧ q + v ≤ x' - y') :
    (∃ A B, TS x y A B p q u v odd ∧ 0 < B ∧ B < A) ∧ p < 2147483648 ∧ q < 2147483648 ∧ u < 2147483648 ∧ v < 2147483648 := by
  obtain ⟨x', y', hG, h1, h2⟩ := h
  have hp := Nat.two_pow_pos n
  obtain ⟨A, B, hT, hB, hBA⟩ := lehmer hG hq h1 h2 (Nat.mod_lt x hp) (Nat.mod_lt y hp)
  rw [Nat.mul_comm, Nat.div_add_mod, Nat.mul_comm, Nat.div_add_mod] at hT
  have hx : x / 2 ^ n < 4611686018427387904 := Nat.div_lt_of_lt_mul (by rw [show (4611686018427387904 : Nat) = 2 ^ 62 from rfl, ← Nat.pow_add]; exact hx2)
  exact ⟨⟨A, B, hT, hB, hBA⟩, hG.bound hx hq h1 h2⟩
theorem div_ts {x y : Nat} (hy : 0 < y) (h : y ≤ x) : TS x y y (x % y) 0 1 1 (x / y) true := TS.one (by rw [Nat.mul_comm]; exact (Nat.div_add_mod x y).symm) (Nat.div_pos h hy) (Nat.mod_lt x hy)

theorem ES.below {a W W' : World} {s : Nat} {A B X Y : Option Addr} {ca cb cx cy : Nat} {la lb lx ly : List Nat} {o : Bool} (h : ES a W s A B X Y ca cb cx cy la lb lx ly o) (hb : Below W.heap.size W W') : ES a W' s A B X Y ca cb cx cy la lb lx ly o :=
  ⟨h.cells.below hb, h.oa.below hb, h.ob.below hb, h.ox.below hb, h.oy.below hb, h.ab, h.ax, h.ay, h.bx, h.by_, h.low, bt h.bel hb⟩
theorem TS.lt_b {a0 b0 a b p q u v : Nat} {odd : Bool} (h : TS a0 b0 a b p q u v odd) (hq : 0 < q) (hba : b < a) : b < b0 := by
  have h2 := h.h2
  rcases h.h4 with ⟨rfl, rfl, rfl, rfl⟩ | ⟨_, _, _, h8, _⟩
  · omega
  · have := Nat.le_mul_of_pos_left a h8
    omega
theorem step_parts {a w' : World} {s a0 b0 y0 : Nat} {o : Bool} {A' B' X' Y' : Option Addr} {ca' cb' cx' cy' : Nat} {la lb lx ly la' lb' lx' ly' : List Nat} {p q u v p2 q2 u2 v2 : Nat} {odd o2 o' : Bool}
    (ht : TS a0 b0 (val la) (val lb) p q u v odd) (hd : Desc a0 b0 (val la) (val lb) p q u v odd) (hx : val lx = y0 * q) (hy : val ly = y0 * v)
    (h' : ES a w' s A' B' X' Y' ca' cb' cx' cy' la' lb' lx' ly' o') (ho : o' = ((o != odd) != o2)) (k : TS (val la) (val lb) (val la') (val lb') p2 q2 u2 v2 o2) (hlt : val lb' < val la') (hx' : val lx' = val lx * p2 + val ly * q2) (hy' : val ly' = val lx * u2 + val ly * v2) :
    ES a w' s A' B' X' Y' ca' cb' cx' cy' la' lb' lx' ly' (o != (odd != o2)) ∧ TS a0 b0 (val la') (val lb') (p2 * p + q2 * u) (p2 * q + q2 * v) (u2 * p + v2 * u) (u2 * q + v2 * v) (odd != o2) ∧ Desc a0 b0 (val la') (val lb') (p2 * p + q2 * u) (p2 * q + q2 * v) (u2 * p + v2 * u) (u2 * q + v2 * v) (odd != o2) ∧ val lx' = y0 * (p2 * q + q2 * v) ∧ val ly' = y0 * (u2 * q + v2 * v) := by
  subst ho
  rw [bne_assoc] at h'
  exact ⟨h', ht.more hd k, .inl hlt, by rw [hx', cof0 hx hy], by rw [hy', cof0 hx hy]⟩
/-- What the region of the guess leaves. -/
def GT (w : World) (x0 y0 : Nat) (s2 s3 : Value) (W : World) : Prop :=
  ∃ (T p q u v : Nat) (odd : Bool), s2 = .pointer (some ⟨T, 0, none⟩) ∧ s3 = .bool odd ∧ Cells W T 150 #[.int .u64 (p : Int), .int .u64 (q : Int), .int .u64 (u : Int), .int .u64 (v : Int)] ∧
    (0 < q → ∃ x y, GI x0 y0 x y p q u v odd ∧ v ≤ y ∧ q + v ≤ x - y) ∧ Below w.heap.size w W
set_option maxRecDepth 100000 in
set_option maxHeartbeats 1000000 in
theorem run_any (a w : World) (s y0 : Nat) (A B X Y : Option Addr) (ca cb cx cy : Nat) (la lb lx ly : List Nat) (o : Bool) (h : ES a w s A B X Y ca cb cx cy la lb lx ly o) (hla : la.length ≤ 300000) (hlt : val lb ≤ val la) (hx : val lx = 0) (hy : val ly = y0) (hy1 : y0 ≤ 1) :
    Calls Tryz.prog 151 #[.pointer (some ⟨s, 0, none⟩)] w (RunG a s (val la) (val lb) y0 o) := by
  obtain ⟨a0, ha0⟩ : ∃ x, x = val la := ⟨_, rfl⟩
  obtain ⟨b0', hb0⟩ : ∃ x, x = val lb := ⟨_, rfl⟩
  obtain ⟨n0, hn0⟩ : ∃ x, x = la.length := ⟨_, rfl⟩
  have hN : a0 < BB n0 := by rw [ha0, hn0]; exact val_lt h.oa.ws.1
  rw [← hn0] at hla
  have hst : RunI a s a0 b0' y0 o w := ⟨A, B, X, Y, ca, cb, cx, cy, la, lb, lx, ly, 1, 0, 0, 1, false, by simpa using h, by rw [← ha0, ← hb0]; exact TS.start _ _, .inr ⟨ha0, hb0, rfl, rfl, rfl, rfl, rfl⟩, by rw [hx]; simp, by rw [hy]; simp⟩
  rw [← ha0, ← hb0] at hlt ⊢
  have HST := Lib.hid hst
  have HN := Lib.hid hN
  clear hst hN ha0 hb0 h hx hy hn0
  go_enter Tryz.func151, Tryz.ntmps151
  go_wp2_with fail
  go_loopw [] (fun wr => RunI a s a0 b0' y0 o wr) (fun wr => bv s wr)
  case atStart => exact HST.out
  case round =>
    obtain ⟨A, B, X, Y, ca, cb, cx, cy, la, lb, lx, ly, p, q, u, v, odd, h, ht, hd, hx, hy⟩ := hrel
    have hle := hd.le hlt
    have HT := Lib.hid ht
    have HD := Lib.hid hd
    have HX := Lib.hid hx
    have HY := Lib.hid hy
    have hs := h.cells
    have e0 := hs.at_ 0
    have e1 := hs.at_ 1
    simp at e0 e1
    have hla3 : la.length ≤ n0 := top_len h.oa.top (Nat.lt_of_le_of_lt ht.le_a HN.out)
    have hlab : lb.length ≤ la.length := top_len h.ob.top (Nat.lt_of_le_of_lt hle (val_lt h.oa.ws.1))
    have hlxy : lx.length ≤ ly.length := top_len h.ox.top (Nat.lt_of_le_of_lt (by rw [hx, hy]; exact Nat.mul_le_mul_left _ ht.q_le) (val_lt h.oy.ws.1))
    have hlsz := hs.lt
    clear ht hd hx hy
    by_cases hl : 2 < lb.length
    · have hly : ly.length ≤ n0 := top_len h.oy.top (by
        rw [HY.out]
        have h1 := HT.out.le_v (Nat.lt_of_lt_of_le (val_pos h.ob.top (by omega)) hle)
        have h2 := Nat.mul_le_mul_right v hy1
        have h3 := HN.out
        refine Nat.lt_of_le_of_lt ?_ h3
        omega)
      have hlb0 : lb ≠ [] := fun h0 => by rw [h0] at hl; simp at hl
      have hli : (2 : Int) < (lb.length : Int) := by omega
      have HB : Hid (∀ W, Below wr.heap.size wr W → W.cell? ⟨s, 0, none⟩ = some (.slice A la.length ca) ∧ W.cell? ⟨s, 1, none⟩ = some (.slice B lb.length cb)) := fun W hW => by
        have k := hs.below hW
        have k0 := k.at_ 0
        have k1 := k.at_ 1
        simp at k0 k1
        exact ⟨k0, k1⟩
      go_upto_region 1 with fail
      go_cut [2, 3] (fun s2 s3 wx => GT wr (val la / 2 ^ (bl la - 62)) (val lb / 2 ^ (bl la - 62)) s2 s3 wx)
      case first =>
        go_region_held3 (fun W => W.cell? ⟨s, 0, none⟩ = some (.slice A la.length ca) ∧ W.cell? ⟨s, 1, none⟩ = some (.slice B lb.length cb))
          (first | exact HB.out _ (bw (b0 _)) | exact HB.out _ (ba (bw (b0 _)) _) | exact HB.out _ (bt (bw (b0 _)) hb3) | exact HB.out _ (bt (ba (bw (b0 _)) _) hb3) | exact HB.out _ (ba (bt (bw (b0 _)) hb3) _) | exact HB.out _ (bs (bs (bs (bs (bt (ba (bw (b0 _)) _) hb3) (Nat.le_refl _) _) (Nat.le_refl _) _) (Nat.le_refl _) _) (Nat.le_refl _) _) | go_keep)
          (first
            | (go_at_call 175; refine (guessTurn_any _ A B ca cb la lb (by omega) (by omega) (by omega) (by omega) h.oa.cap h.ob.cap h.oa.top hle (h.oa.ws.below (by first | exact bw (b0 _) | exact ba (bw (b0 _)) _)) (h.ob.ws.below (by first | exact bw (b0 _) | exact ba (bw (b0 _)) _))).mono ?_; rintro e w3 ⟨p', q', u', v', odd', rfl, hg3, hb3⟩; have HG3 := Lib.hid hg3; clear hg3; (try (have hT3 : Cells w3 wr.heap.size 150 #[.int .u64 0, .int .u64 0, .int .u64 0, .int .u64 0] := (show Cells (wr.drew.alloc (.cells #[.int .u64 0, .int .u64 0, .int .u64 0, .int .u64 0] 150)) wr.heap.size 150 #[.int .u64 0, .int .u64 0, .int .u64 0, .int .u64 0] from Cells.new wr.drew _ _).below hb3; have t0 := hT3.at_ 0; have t1 := hT3.at_ 1; have t2 := hT3.at_ 2; have t3 := hT3.at_ 3; simp at t0 t1 t2 t3; have g0 := hT3.free 0; have g1 := hT3.free 1; have g2 := hT3.free 2; have g3 := hT3.free 3; have gl := hT3.lt))))
        · go_wp2_with fail
          go_meet
          exact ⟨w3.heap.size, p', q', u', v', odd', rfl, rfl, Cells.new w3 _ _, HG3.out, ba (bt (bw (b0 _)) hb3) _⟩
        · go_wp2_with fail
          go_meet
          have k4 := (((hT3.set_ 0 (.int .u64 (p' : Int))).set_ 1 (.int .u64 (q' : Int))).set_ 2 (.int .u64 (u' : Int))).set_ 3 (.int .u64 (v' : Int))
          simp only [Array.setIfInBounds, List.size_toArray, List.length_cons, List.length_nil] at k4
          exact ⟨wr.heap.size, p', q', u', v', odd', rfl, rfl, by simpa using k4, HG3.out, bs (bs (bs (bs (bt (ba (bw (b0 _)) _) hb3) (Nat.le_refl _) _) (Nat.le_refl _) _) (Nat.le_refl _) _) (Nat.le_refl _) _⟩
      case rest =>
        obtain ⟨T, p2, q2, u2, v2, o2, rfl, rfl, hT, hg, hb1⟩ := hcut
        obtain ⟨W1, hW1⟩ : ∃ v, v = wc := ⟨_, rfl⟩
        rw [← hW1] at hT hb1 ⊢
        clear hW1 wc
        have h1 := h.below hb1
        have HG := Lib.hid hg
        have HM := Lib.hid (show bv s wr = val lb from bv_eq e1 h.ob.own)
        have t0 := hT.at_ 0
        have t1 := hT.at_ 1
        have t2 := hT.at_ 2
        have t3 := hT.at_ 3
        simp at t0 t1 t2 t3
        clear hg HB e0 e1 hs h
        by_cases hq : q2 = 0
        · subst hq
          go_wp2_with fail
          refine (eucDivide_any a W1 s A B X Y ca cb cx cy la lb lx ly (o != odd) (by omega) (by omega) (by omega) (by omega) (by omega) h1.oa.top h1.ob.top h1.oy.cap h1.cells h1.oa.own h1.ob.own h1.ox.own h1.oy.own).mono ?_
          intro e w' hd
          obtain ⟨R, cr, lr, Z, cz, lz, rfl, h2, vR, vZ⟩ := h1.div hd
          have HR := Lib.hid vR
          have HZ := Lib.hid vZ
          have hlp : 0 < val lb := val_pos h1.ob.top (by omega)
          have HLT := Lib.hid (Nat.mod_lt (val la) hlp)
          clear vR vZ hd
          go_wp2_with fail
          go_roundw
          case rel =>
            exact RunI.step h1 HT.out HD.out HX.out HY.out h2 (o2 := true) (p2 := 0) (q2 := 1) (u2 := 1) (v2 := val la / val lb) (by cases o <;> cases odd <;> rfl) (by rw [HR.out]; exact div_ts hlp hle) (by rw [HR.out]; exact HLT.out) (by simp) (by rw [HZ.out, Nat.mul_one, Nat.mul_comm (val ly)])
          case measure =>
            have k1 := h2.cells.at_ 1
            simp at k1
            rw [HM.out, bv_eq k1 h2.ob.own, HR.out]
            exact HLT.out
        · have hqp : 0 < q2 := Nat.pos_of_ne_zero hq
          have hqz : ((q2 : Int) == 0) = false := beq_eq_false_iff_ne.2 (by omega)
          obtain ⟨g1, g2, g3, g4⟩ := bl_bound h1.oa.ws.1 h1.oa.top (by omega)
          obtain ⟨⟨A1, B1, hTS, hB0, hBA⟩, hp', hq', hu', hv'⟩ := guess_ts hqp (by rw [show bl la - 62 + 62 = bl la by omega]; exact g1) (HG.out hqp)
          have hla0 : la ≠ [] := fun h0 => by rw [h0] at hlab; simp at hlab; exact hlb0 hlab
          have HTS := Lib.hid hTS
          have HLB := Lib.hid (hTS.lt_b hqp hBA)
          clear hTS g1 g2 hq
          go_wp2_with fail
          refine (turn_any a W1 s A B X Y ca cb cx cy la lb lx ly (o != odd) o2 p2 q2 u2 v2 A1 B1 hp' hq' hu' hv' h1 hlb0 hlab (by omega) (by omega) hlxy HTS.out (Nat.le_of_lt hBA)).mono ?_
          intro e w' hd
          obtain ⟨la', lb', X', cx', lx', Y', cy', ly', rfl, h2, vA, vB, vX, vY⟩ := h1.turn hla0 hlb0 hd
          have HA := Lib.hid vA
          have HB' := Lib.hid vB
          have HVX := Lib.hid vX
          have HVY := Lib.hid vY
          clear vA vB vX vY hd
          go_wp2_with fail
          go_roundw
          case rel =>
            exact RunI.step h1 HT.out HD.out HX.out HY.out h2 rfl (by rw [HA.out, HB'.out]; exact HTS.out) (by rw [HA.out, HB'.out]; exact hBA) HVX.out HVY.out
          case measure =>
            have k1 := h2.cells.at_ 1
            simp at k1
            rw [HM.out, bv_eq k1 h2.ob.own, HB'.out]
            exact HLB.out
    · have hlo : ¬ (2 : Int) < (lb.length : Int) := by omega
      by_cases hlb0 : lb = []
      · subst hlb0
        go_wp2_with fail
        go_end0
        exact RunI.none_ h HT.out HX.out HY.out
      · have hlp : (0 : Int) < (lb.length : Int) := by have := List.length_pos_iff.2 hlb0; omega
        have hvb : 0 < val lb := val_pos h.ob.top (by omega)
        by_cases hla2 : 2 < la.length
        · have hl2i : (2 : Int) < (la.length : Int) := by omega
          have hly : ly.length ≤ n0 := top_len h.oy.top (by
            rw [HY.out]
            have h1 := HT.out.le_v (Nat.lt_of_lt_of_le hvb hle)
            have h2 := Nat.mul_le_mul_right v hy1
            have h3 := HN.out
            refine Nat.lt_of_le_of_lt ?_ h3
            omega)
          go_wp2_with fail
          refine (eucDivide_any a wr s A B X Y ca cb cx cy la lb lx ly (o != odd) (by omega) (by omega) (by omega) (by omega) (by omega) h.oa.top h.ob.top h.oy.cap h.cells h.oa.own h.ob.own h.ox.own h.oy.own).mono ?_
          intro e w' hd
          obtain ⟨R, cr, lr, Z, cz, lz, rfl, h2, vR, vZ⟩ := h.div hd
          have hmod := Nat.mod_lt (val la) hvb
          obtain ⟨h3, ht3, hd3, hx3, hy3⟩ := step_parts (o := o) (odd := odd) HT.out HD.out HX.out HY.out h2 (o2 := true) (p2 := 0) (q2 := 1) (u2 := 1) (v2 := val la / val lb) (by cases o <;> cases odd <;> rfl) (by rw [vR]; exact div_ts hvb hle) (by rw [vR]; exact hmod) (by simp) (by rw [vZ, Nat.mul_one, Nat.mul_comm (val ly)])
          have hlr : lr.length ≤ lb.length := top_len h3.ob.top (by rw [vR]; exact Nat.lt_trans hmod (val_lt h.ob.ws.1))
          have hlrv : val lr ≤ val lb := by rw [vR]; exact Nat.le_of_lt hmod
          have hlz : lz.length ≤ n0 := top_len h3.oy.top (by
            rw [hy3]
            have h1 := ht3.le_v hvb
            have h2 := Nat.mul_le_mul_right (1 * q + val la / val lb * v) hy1
            have h3 := HN.out
            refine Nat.lt_of_le_of_lt ?_ h3
            omega)
          have HT3 := Lib.hid ht3
          have HD3 := Lib.hid hd3
          have HX3 := Lib.hid hx3
          have HY3 := Lib.hid hy3
          have k1 := h3.cells.at_ 1
          simp at k1
          clear vR vZ ht3 hd3 hx3 hy3 hd hmod h2 e0 e1 hs h
          by_cases hlr0 : lr = []
          · subst hlr0
            go_wp2_with fail
            go_end0
            exact RunI.none_ h3 HT3.out HX3.out HY3.out
          · have hlrp : (0 : Int) < (lr.length : Int) := by have := List.length_pos_iff.2 hlr0; omega
            go_wp2_with fail
            refine (finish_any w' s B R Y Z cb cr cy cz lb lr ly lz (o != (odd != true)) (by omega) (by omega) (by omega) (by omega) hlrv hvb h3.cells h3.oa.ws h3.ob.ws h3.ox.ws h3.oy.ws).mono ?_
            intro e w'' hf
            have hG := RunI.fin h3 HT3.out HD3.out HX3.out HY3.out hf
            have he : e = .returned (.tuple #[]) := by obtain ⟨_, _, _, _, _, _, _, _, _, _, _, _, _, _, _, _, _, h1, _⟩ := hG; exact h1
            subst he
            clear hf
            have HG := Lib.hid hG
            clear hG
            go_wp2_with fail
            go_end0
            exact HG.out
        · have hl2i : ¬ (2 : Int) < (la.length : Int) := by omega
          have hly : ly.length ≤ n0 := top_len h.oy.top (by
            rw [HY.out]
            have h1 := HT.out.le_v (Nat.lt_of_lt_of_le hvb hle)
            have h2 := Nat.mul_le_mul_right v hy1
            have h3 := HN.out
            refine Nat.lt_of_le_of_lt ?_ h3
            omega)
          go_wp2_with fail
          refine (finish_any wr s A B X Y ca cb cx cy la lb lx ly (o != odd) (by omega) (by omega) (by omega) (by omega) hle (by omega) h.cells h.oa.ws h.ob.ws h.ox.ws h.oy.ws).mono ?_
          intro e w'' hf
          have hG := RunI.fin h HT.out HD.out HX.out HY.out hf
          have he : e = .returned (.tuple #[]) := by obtain ⟨_, _, _, _, _, _, _, _, _, _, _, _, _, _, _, _, _, h1, _⟩ := hG; exact h1
          subst he
          clear hf
          have HG := Lib.hid hG
          clear hG
          go_wp2_with fail
          go_end0
          exact HG.out
end Go.Proofs.YtgljdfblgpdaaaaGreatDoor
