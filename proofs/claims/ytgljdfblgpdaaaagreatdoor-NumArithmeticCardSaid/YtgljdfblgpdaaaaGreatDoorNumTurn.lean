/- The method 'turn' of euclid. -/
import Derived.Test.YtgljdfblgpdaaaaGreatDoorNumMix
import Derived.Test.YtgljdfblgpdaaaaGreatDoorNumES
import Derived.Test.YtgljdfblgpdaaaaGreatDoorNumTsM
import Derived.Deep.RegionHeld3
import Derived.Test.YtgljdfblgpdaaaaGreatDoorNumReg
set_option linter.unusedSimpArgs false
set_option linter.unusedVariables false
namespace Go.Proofs.YtgljdfblgpdaaaaGreatDoor
open Go.RowKit

theorem JBox.new' {W : World} {p : Nat} {v : Int} (hp : W.heap.size = p) : JBox (W.alloc (.cells #[.int .i64 v] 2)) p v := by subst hp; exact heap_alloc_new W _
theorem JBox.alloc {W : World} {p : Nat} {v : Int} (h : JBox W p v) (o : Obj) : JBox (W.alloc o) p v := h.below (ba (b0 _) _)
theorem JBox.store {W : World} {p : Nat} {u v : Int} (h : JBox W p u) : JBox (W.setCell ⟨p, 0, none⟩ (.int .i64 v)) p v := by
  unfold JBox at h ⊢
  simp [World.setCell, Array.getElem?_modify, h]
theorem JBox.far {W : World} {p q : Nat} {v : Int} (h : JBox W p v) (hne : p ≠ q) (x : Value) : JBox (W.setCell ⟨q, 0, none⟩ x) p v := (Below.heap_setCell _ ⟨q, 0, none⟩ x p hne).trans h
/-- Four boxes of integers, that were not there in the world w. -/
def FourJ (w : World) (p q u v : Int) (s1 s2 s3 s4 : Value) (W : World) : Prop :=
  ∃ b1 b2 b3 b4, s1 = .pointer (some ⟨b1, 0, none⟩) ∧ s2 = .pointer (some ⟨b2, 0, none⟩) ∧ s3 = .pointer (some ⟨b3, 0, none⟩) ∧ s4 = .pointer (some ⟨b4, 0, none⟩) ∧ JBox W b1 p ∧ JBox W b2 q ∧ JBox W b3 u ∧ JBox W b4 v ∧
    (w.heap.size ≤ b1 ∧ w.heap.size ≤ b2 ∧ w.heap.size ≤ b3 ∧ w.heap.size ≤ b4) ∧ (b1 ≠ b2 ∧ b1 ≠ b3 ∧ b1 ≠ b4 ∧ b2 ≠ b3 ∧ b2 ≠ b4 ∧ b3 ≠ b4) ∧ Below w.heap.size w W

/-- The boxes of a turn's numbers. -/
def FourB (b1 b2 b3 b4 : Nat) (P Q U V : Int) (W1 W : World) : Prop := JBox W b1 P ∧ JBox W b2 Q ∧ JBox W b3 U ∧ JBox W b4 V ∧ Below W1.heap.size W1 W
/-- With the sign of an odd turn. -/
def sg (odd : Bool) (x : Nat) : Int := if odd then -(x : Int) else (x : Int)
theorem sg_bd (odd : Bool) {x : Nat} (h : x < 2147483648) : -2147483648 < sg odd x ∧ sg odd x < 2147483648 := by unfold sg; split <;> omega
theorem sg_two (odd : Bool) (x y : Nat) : (0 ≤ sg odd x ∧ 0 ≤ sg odd y) ∨ (sg odd x ≤ 0 ∧ sg odd y ≤ 0) := by unfold sg; split <;> omega
theorem WS.on2 {w w' : World} {A : Option Addr} {l : List Nat} {g h : Nat} (k : WS w A l) (hb : On2 g h w w') (h1 : Off A l g) (h2 : Off A l h) : WS w' A l :=
  ⟨k.1, fun hl => by
    obtain ⟨b, off, e, hlt, hc⟩ := k.2 hl
    refine ⟨b, off, e, Nat.lt_of_lt_of_le hlt hb.2.2.2.1, fun j hj => ?_⟩
    rw [← hc j hj]
    exact World.cell?_of_block (hb.2.2.2.2 b hlt (h1 hl b off e) (h2 hl b off e))⟩
theorem val_take_lt {l : List Nat} {m : Nat} (h : val l < BB m) (hm : m ≤ l.length) : val (l.take m) = val l := by
  have h1 := val_append (l.take m) (l.drop m)
  rw [List.take_append_drop, List.length_take, Nat.min_eq_left hm] at h1
  rcases Nat.eq_zero_or_pos (val (l.drop m)) with h2 | h2
  · rw [h1, h2, Nat.mul_zero, Nat.add_zero]
  · have := Nat.le_mul_of_pos_right (BB m) h2; omega
theorem own_trim {a W : World} {g n k : Nat} {L : List Nat} (hg : a.heap.size ≤ g) (hb : Blk W g L) (hn : n ≤ L.length) (hk : k ≤ n) (ht : 0 < k → gd (L.take n) (k - 1) ≠ 0) (hz : ∀ j, k ≤ j → gd (L.take n) j = 0) :
    ∃ l, l.length = k ∧ OwnS a W (some ⟨g, 0, none⟩) l ∧ Top l ∧ val l = val (L.take n) := by
  have hl : ((L.take n).take k).length = k := by rw [List.length_take, List.length_take]; omega
  refine ⟨(L.take n).take k, hl, fun _ => ⟨g, L, rfl, hg, hb, ?_, by omega⟩, fun h0 => ?_, val_take_top _ _ hz⟩
  · rw [hl, List.take_take, Nat.min_eq_left hk]
  · rw [hl] at h0 ⊢
    rw [gd_take (by omega)]
    exact ht h0
/-- What the words come to: nothing is carried at the end. -/
theorem no_carry {S : List Nat} {n N : Nat} {x : Int} (hS : S.length = n) (hw : ∀ z ∈ S, z < 4294967296) (hv : (val S : Int) + BB n * x = (N : Int)) (hN : N < BB n) : x = 0 ∧ val S = N := by
  have h1 := val_lt hw
  rw [hS] at h1
  have hp := BB_pos n
  have hx : x = 0 := by
    rcases Int.lt_trichotomy x 0 with h | h | h
    · have := Int.mul_le_mul_of_nonneg_left (show x ≤ -1 by omega) (show (0 : Int) ≤ (BB n : Int) by omega)
      omega
    · exact h
    · have := Int.mul_le_mul_of_nonneg_left (show 1 ≤ x by omega) (show (0 : Int) ≤ (BB n : Int) by omega)
      omega
  subst hx
  exact ⟨rfl, by omega⟩
theorem ts_sg {a0 b0 a b p q u v : Nat} {odd : Bool} (h : TS a0 b0 a b p q u v odd) : sg odd p * (a0 : Int) - sg odd q * (b0 : Int) = (a : Int) ∧ sg odd v * (b0 : Int) - sg odd u * (a0 : Int) = (b : Int) := by
  have h3 := h.h3
  unfold sg
  cases odd
  · simp only [Bool.false_eq_true, if_false] at h3 ⊢
    obtain ⟨h4, h5⟩ := h3
    have e1 : ((a + q * b0 : Nat) : Int) = ((p * a0 : Nat) : Int) := by rw [h4]
    have e2 : ((b + u * a0 : Nat) : Int) = ((v * b0 : Nat) : Int) := by rw [h5]
    simp only [Int.natCast_add, Int.natCast_mul] at e1 e2
    omega
  · simp only [if_true] at h3 ⊢
    obtain ⟨h4, h5⟩ := h3
    have e1 : ((a + p * a0 : Nat) : Int) = ((q * b0 : Nat) : Int) := by rw [h4]
    have e2 : ((b + v * b0 : Nat) : Int) = ((u * a0 : Nat) : Int) := by rw [h5]
    simp only [Int.natCast_add, Int.natCast_mul] at e1 e2
    rw [Int.neg_mul, Int.neg_mul, Int.neg_mul, Int.neg_mul]
    omega
theorem TS.le_b {a0 b0 a b p q u v : Nat} {odd : Bool} (h : TS a0 b0 a b p q u v odd) (hba : b ≤ a) : b ≤ b0 := by
  have h2 := h.h2
  rcases h.h4 with ⟨rfl, rfl, rfl, rfl⟩ | ⟨_, _, _, h8, _⟩
  · omega
  · have := Nat.le_mul_of_pos_left a h8
    omega
theorem TurnI.fresh {w0 : World} {s ga gb b1 b2 b3 b4 b5 n m ca cb : Nat} {X Y od : Value} {P Q U V : Int} {la lb La Lb : List Nat} {i : Nat} {x y : Int} {W W' : World} {f : Nat}
    (h : TurnI w0 s ga gb b1 b2 b3 b4 b5 n m ca cb X Y od P Q U V la lb La Lb i x y W) (hO : Only f W W') (hf : w0.heap.size ≤ f) (h0 : ga < w0.heap.size ∧ gb < w0.heap.size ∧ b1 < w0.heap.size ∧ b2 < w0.heap.size ∧ b3 < w0.heap.size ∧ b4 < w0.heap.size ∧ b5 < w0.heap.size ∧ s < w0.heap.size) :
    TurnI w0 s ga gb b1 b2 b3 b4 b5 n m ca cb X Y od P Q U V la lb La Lb i x y W' := by
  obtain ⟨Sa, Sb, h1, h2, h3, h4, h5, h6, h7, h8, k1, k2, k3, k4, k5, k6, k7, k8, k9⟩ := h
  exact ⟨Sa, Sb, h1, h2, h3, h4, h5, h6, h7, h8, k1.only hO (by omega), k2.only hO (by omega), k3.only hO (by omega), k4.only hO (by omega), k5.only hO (by omega), k6.only hO (by omega), k7.only hO (by omega), k8.only hO (by omega), k9.fresh hO hf⟩
theorem enters_turn : ∀ args W, (callFunc 196 args).run Tryz.prog W = .ok (.enter 196 args) W
    := enters_of Tryz.func196 (by kernel_rfl) rfl
theorem facts6 {W : World} {s p5 t5 p q u v : Nat} {A B X Y : Value} {od : Value} (h1 : PBox W p5 s) (h2 : Cells W s 125 #[A, B, X, Y, od]) (h3 : Cells W t5 150 #[.int .u64 (p : Int), .int .u64 (q : Int), .int .u64 (u : Int), .int .u64 (v : Int)]) :
    W.cell? ⟨p5, 0, none⟩ = some (.pointer (some ⟨s, 0, none⟩)) ∧ W.cell? ⟨s, 2, none⟩ = some X ∧ W.cell? ⟨s, 3, none⟩ = some Y ∧ W.cell? ⟨t5, 0, none⟩ = some (.int .u64 (p : Int)) ∧ W.cell? ⟨t5, 1, none⟩ = some (.int .u64 (q : Int)) ∧ W.cell? ⟨t5, 2, none⟩ = some (.int .u64 (u : Int)) ∧ W.cell? ⟨t5, 3, none⟩ = some (.int .u64 (v : Int)) := by
  have e2 := h2.at_ 2
  have e3 := h2.at_ 3
  have t0 := h3.at_ 0
  have t1 := h3.at_ 1
  have t2 := h3.at_ 2
  have t3 := h3.at_ 3
  simp at e2 e3 t0 t1 t2 t3
  exact ⟨h1.cell, e2, e3, t0, t1, t2, t3⟩

theorem put_self (a : Act) (k : Nat) : a.put (some k) (a.tmps.getD k undef) = a := by
  unfold Act.put
  have : a.tmps.setIfInBounds k (a.tmps.getD k undef) = a.tmps := by
    refine Array.ext_getElem? (fun i => ?_)
    rw [Array.getElem?_setIfInBounds]
    split
    · rename_i h1
      subst h1
      split
      · rename_i h2; simp [Array.getD_eq_getD_getElem?, h2]
      · rename_i h2; rw [Array.getElem?_eq_none (by omega)]
    · rfl
  show ({ a with tmps := a.tmps.setIfInBounds k (a.tmps.getD k undef) } : Act) = a
  rw [this]
theorem put8 (a : Act) : a = (((((((a.put (some 23) (a.tmps.getD 23 undef)).put (some 24) (a.tmps.getD 24 undef)).put (some 25) (a.tmps.getD 25 undef)).put (some 26) (a.tmps.getD 26 undef)).put (some 27) (a.tmps.getD 27 undef)).put (some 28) (a.tmps.getD 28 undef)).put (some 29) (a.tmps.getD 29 undef)).put (some 30) (a.tmps.getD 30 undef) := by
  simp only [put_self]
/-- Where nothing may come up, what waits for nobody that has not has come up. -/
theorem up_of {ops : Array Oper} {md : Region.Mode} {L : Array Bool} {i : Nat} {o : Oper} (hr : Region.ready md ops L = []) (ho : ops[i]? = some o) (he : (o.after.all fun e => !Region.binds md e || L.getD e.on false) = true) : L.getD i true = true := by
  cases hl : L.getD i true with
  | true => rfl
  | false =>
    have h1 : i ∈ Region.ready md ops L := mem_ready.2 ⟨hl, o, ho, fun e h1 h2 => by
      have h3 := Array.all_eq_true'.1 he e h1
      rw [h2] at h3
      simpa using h3⟩
    rw [hr] at h1
    cases h1
theorem below_on2 {g h : Nat} {a b c : World} (x : Below a.heap.size a b) (k : On2 g h b c) (hg : a.heap.size ≤ g) (hh : a.heap.size ≤ h) : Below a.heap.size a c := On2.bt x k hg hh
theorem lay_take {L : List Nat} {m i : Nat} {S : List Nat} (hS : S.length = i) (hi : m ≤ i) : (lay L m S).take m = S.take m := by
  have h1 : (S.take m).length = m := by rw [List.length_take]; omega
  unfold lay spl
  rw [List.take_zero, List.nil_append, List.take_append_of_le_length (by omega), List.take_of_length_le (by omega)]
theorem turnI_a {w0 : World} {s ga gb b1 b2 b3 b4 b5 n m ca cb : Nat} {X Y od : Value} {P Q U V : Int} {la lb La Lb : List Nat} {i : Nat} {x y : Int} {W : World} (hi : i < n) (hn : n ≤ La.length) (ht : La.take n = la)
    (h : TurnI w0 s ga gb b1 b2 b3 b4 b5 n m ca cb X Y od P Q U V la lb La Lb i x y W) : W.cell? ⟨ga, i, none⟩ = some (.int .u32 (gd la i : Int)) := by
  obtain ⟨Sa, Sb, _, _, hSa, _, _, _, _, _, hb, _⟩ := h
  have h1 := hb.cell (i := i) (by rw [lay_length hn]; omega)
  rw [lay_get hn hSa] at h1
  rw [h1, ← ht, gd_take hi]
theorem turnI_b {w0 : World} {s ga gb b1 b2 b3 b4 b5 n m ca cb : Nat} {X Y od : Value} {P Q U V : Int} {la lb La Lb : List Nat} {i : Nat} {x y : Int} {W : World} (hm : m ≤ Lb.length) (hl : lb.length = m) (ht : Lb.take m = lb)
    (h : TurnI w0 s ga gb b1 b2 b3 b4 b5 n m ca cb X Y od P Q U V la lb La Lb i x y W) : ∃ kb, WS W (some ⟨gb, 0, none⟩) kb ∧ kb.length = m ∧ gd kb i = gd lb i := by
  obtain ⟨Sa, Sb, _, _, _, hSb, _, _, _, _, _, hb, _⟩ := h
  have hlen : (lay Lb m Sb).length = Lb.length := lay_length hm
  have h1 := hb.ws (o := 0) (n := m) (by omega)
  rw [List.drop_zero] at h1
  refine ⟨_, h1, by rw [List.length_take]; omega, ?_⟩
  rcases Nat.lt_or_ge i m with hi | hi
  · rw [gd_take hi, lay_get hm hSb, ← ht, gd_take hi]
  · rw [gd_end (by rw [List.length_take]; omega), gd_end (by omega)]

set_option maxRecDepth 100000 in
set_option maxHeartbeats 4000000 in
theorem turn_any (a w : World) (s : Nat) (A B X Y : Option Addr) (ca cb cx cy : Nat) (la lb lx ly : List Nat) (o odd : Bool) (p q u v A1 B1 : Nat)
    (hp : p < 2147483648) (hq : q < 2147483648) (hu : u < 2147483648) (hv : v < 2147483648) (h : ES a w s A B X Y ca cb cx cy la lb lx ly o)
    (hlb : lb ≠ []) (hlab : lb.length ≤ la.length) (hn : la.length ≤ 400000) (hyn : ly.length ≤ 400000) (hxy : lx.length ≤ ly.length) (ht : TS (val la) (val lb) A1 B1 p q u v odd) (hBA : B1 ≤ A1) :
    Calls Tryz.prog 177 #[.pointer (some ⟨s, 0, none⟩), tv p q u v, .bool odd] w (ETurnP a w s A B ca cb A1 B1 (val lx * p + val ly * q) (val lx * u + val ly * v) (o != odd)) := by
  have hla : la ≠ [] := fun h0 => by rw [h0] at hlab; simp at hlab; exact hlb hlab
  obtain ⟨ga, La, rfl, hga, hba, hta, hna⟩ := h.oa.own hla
  obtain ⟨gb, Lb, rfl, hgb, hbb, htb, hnb⟩ := h.ob.own hlb
  have hgab : ga ≠ gb := h.ab hla hlb ga 0 gb 0 rfl rfl
  have hsa : ga ≠ s := ws_off_cells h.oa.ws h.cells hla ga 0 rfl
  have hsb : gb ≠ s := ws_off_cells h.ob.ws h.cells hlb gb 0 rfl
  have hXa : Off X lx ga := h.ax.off (w := w) rfl hla
  have hYa : Off Y ly ga := h.ay.off (w := w) rfl hla
  have hXb : Off X lx gb := h.bx.off (w := w) rfl hlb
  have hYb : Off Y ly gb := h.by_.off (w := w) rfl hlb
  have HTA := Lib.hid hta
  have HTB := Lib.hid htb
  clear hta htb
  go_enter Tryz.func177, Tryz.ntmps177
  go_upto_region 1 with fail
  obtain ⟨W1, hW1, pb1, hT1, hw1⟩ : ∃ W, W = (w.alloc (.cells #[.pointer (some ⟨s, 0, none⟩)] 148)).alloc (.cells #[.int .u64 (p : Int), .int .u64 (q : Int), .int .u64 (u : Int), .int .u64 (v : Int)] 150) ∧ PBox W w.heap.size s ∧ Cells W (w.heap.size + 1) 150 #[.int .u64 (p : Int), .int .u64 (q : Int), .int .u64 (u : Int), .int .u64 (v : Int)] ∧ Below w.heap.size w W := by
    refine ⟨_, rfl, (show PBox (w.alloc (.cells #[.pointer (some ⟨s, 0, none⟩)] 148)) w.heap.size s from heap_alloc_new w _).below (ba (b0 _) _), ?_, ba (ba (b0 _) _) _⟩
    have h := Cells.new (w.alloc (.cells #[.pointer (some ⟨s, 0, none⟩)] 148)) 150 #[.int .u64 (p : Int), .int .u64 (q : Int), .int .u64 (u : Int), .int .u64 (v : Int)]
    rw [World.size_alloc] at h; exact h
  rw [← hW1]
  clear hW1
  go_cut [6, 7, 8, 9] (fun s1 s2 s3 s4 wx => FourJ W1 p q u v s1 s2 s3 s4 wx)
  case first =>
    have t0 := hT1.at_ 0
    have t1 := hT1.at_ 1
    have t2 := hT1.at_ 2
    have t3 := hT1.at_ 3
    simp at t0 t1 t2 t3
    have hl1 := hT1.lt
    have hpw : IntKind.i64.wrap (p : Int) = (p : Int) := IntWalk.i64_in _ ⟨by omega, by omega⟩
    have hqw : IntKind.i64.wrap (q : Int) = (q : Int) := IntWalk.i64_in _ ⟨by omega, by omega⟩
    have huw : IntKind.i64.wrap (u : Int) = (u : Int) := IntWalk.i64_in _ ⟨by omega, by omega⟩
    have hvw : IntKind.i64.wrap (v : Int) = (v : Int) := IntWalk.i64_in _ ⟨by omega, by omega⟩
    have S5 : ∀ W, Below W1.heap.size W1 W → W.cell? ⟨w.heap.size + 1, 0, none⟩ = some (.int .u64 (p : Int)) ∧ W.cell? ⟨w.heap.size + 1, 1, none⟩ = some (.int .u64 (q : Int)) ∧ W.cell? ⟨w.heap.size + 1, 2, none⟩ = some (.int .u64 (u : Int)) ∧ W.cell? ⟨w.heap.size + 1, 3, none⟩ = some (.int .u64 (v : Int)) := fun W hb => by
      have h := hT1.below hb
      have z0 := h.at_ 0
      have z1 := h.at_ 1
      have z2 := h.at_ 2
      have z3 := h.at_ 3
      simp at z0 z1 z2 z3
      exact ⟨z0, z1, z2, z3⟩
    have HS5 := Lib.hid S5
    clear S5
    refine wp_region_held_drew (S := fun W => W.cell? ⟨w.heap.size + 1, 0, none⟩ = some (.int .u64 (p : Int)) ∧ W.cell? ⟨w.heap.size + 1, 1, none⟩ = some (.int .u64 (q : Int)) ∧ W.cell? ⟨w.heap.size + 1, 2, none⟩ = some (.int .u64 (u : Int)) ∧ W.cell? ⟨w.heap.size + 1, 3, none⟩ = some (.int .u64 (v : Int))) (by kernel_rfl) (HS5.out _ (bw (b0 _))) (fun hHeld => ?_)
    refine wpAnyH_take (i := 0) (v := ?_) rfl (by kernel_rfl) (by kernel_rfl) (by kernel_rfl) (fun _ _ _ h => h) (Or.inl ⟨by rfl, ?_⟩) (by assumption) ?_
    rotate_left
    · (intro w hSw; (try dsimp only at hSw); go_simp; all_goals with_reducible rfl)
    try simp only [Act.put, List.getElem_toArray, List.getElem_cons_zero, List.getElem_cons_succ, List.setIfInBounds_toArray, List.set_cons_zero, List.set_cons_succ]
    refine wpAnyH_take (i := 1) (v := ?_) rfl (by kernel_rfl) (by kernel_rfl) (by kernel_rfl) (fun _ _ _ h => h) (Or.inl ⟨by rfl, ?_⟩) (by assumption) ?_
    rotate_left
    · (intro w hSw; (try dsimp only at hSw); go_simp; all_goals with_reducible rfl)
    try simp only [Act.put, List.getElem_toArray, List.getElem_cons_zero, List.getElem_cons_succ, List.setIfInBounds_toArray, List.set_cons_zero, List.set_cons_succ]
    refine wpAnyH_take (i := 2) (v := ?_) rfl (by kernel_rfl) (by kernel_rfl) (by kernel_rfl) (fun _ _ _ h => h) (Or.inl ⟨by rfl, ?_⟩) (by assumption) ?_
    rotate_left
    · (intro w hSw; (try dsimp only at hSw); go_simp; all_goals with_reducible rfl)
    try simp only [Act.put, List.getElem_toArray, List.getElem_cons_zero, List.getElem_cons_succ, List.setIfInBounds_toArray, List.set_cons_zero, List.set_cons_succ]
    refine wpAnyH_take (i := 3) (v := ?_) rfl (by kernel_rfl) (by kernel_rfl) (by kernel_rfl) (fun _ _ _ h => h) (Or.inl ⟨by rfl, ?_⟩) (by assumption) ?_
    rotate_left
    · (intro w hSw; (try dsimp only at hSw); go_simp; all_goals with_reducible rfl)
    try simp only [Act.put, List.getElem_toArray, List.getElem_cons_zero, List.getElem_cons_succ, List.setIfInBounds_toArray, List.set_cons_zero, List.set_cons_succ]
    refine wpAnyH_take (i := 4) (v := ?_) rfl (by kernel_rfl) (by kernel_rfl) (by kernel_rfl) (fun _ _ _ h => h) (Or.inl ⟨by rfl, ?_⟩) (by assumption) ?_
    rotate_left
    · (intro w hSw; (try dsimp only at hSw); go_simp; all_goals with_reducible rfl)
    try simp only [Act.put, List.getElem_toArray, List.getElem_cons_zero, List.getElem_cons_succ, List.setIfInBounds_toArray, List.set_cons_zero, List.set_cons_succ]
    refine wpAnyH_take (i := 5) (v := ?_) rfl (by kernel_rfl) (by kernel_rfl) (by kernel_rfl) (fun _ _ _ h => h) (Or.inl ⟨by rfl, ?_⟩) (by assumption) ?_
    rotate_left
    · (intro w hSw; (try dsimp only at hSw); go_simp; all_goals with_reducible rfl)
    try simp only [Act.put, List.getElem_toArray, List.getElem_cons_zero, List.getElem_cons_succ, List.setIfInBounds_toArray, List.set_cons_zero, List.set_cons_succ]
    refine wpAnyH_take (i := 6) (v := ?_) rfl (by kernel_rfl) (by kernel_rfl) (by kernel_rfl) (fun _ _ _ h => h) (Or.inl ⟨by rfl, ?_⟩) (by assumption) ?_
    rotate_left
    · (intro w hSw; (try dsimp only at hSw); go_simp; all_goals with_reducible rfl)
    try simp only [Act.put, List.getElem_toArray, List.getElem_cons_zero, List.getElem_cons_succ, List.setIfInBounds_toArray, List.set_cons_zero, List.set_cons_succ]
    refine wpAnyH_take (i := 7) (v := ?_) rfl (by kernel_rfl) (by kernel_rfl) (by kernel_rfl) (fun _ _ _ h => h) (Or.inl ⟨by rfl, ?_⟩) (by assumption) ?_
    rotate_left
    · (intro w hSw; (try dsimp only at hSw); go_simp; all_goals with_reducible rfl)
    try simp only [Act.put, List.getElem_toArray, List.getElem_cons_zero, List.getElem_cons_succ, List.setIfInBounds_toArray, List.set_cons_zero, List.set_cons_succ]
    refine wpAnyH_take (i := 8) (v := ?_) rfl (by kernel_rfl) (by kernel_rfl) (by kernel_rfl) (fun _ _ _ h => h) (Or.inl ⟨by rfl, ?_⟩) (by assumption) ?_
    rotate_left
    · (intro w hSw; (try dsimp only at hSw); go_simp; all_goals with_reducible rfl)
    try simp only [Act.put, List.getElem_toArray, List.getElem_cons_zero, List.getElem_cons_succ, List.setIfInBounds_toArray, List.set_cons_zero, List.set_cons_succ]
    refine wpAnyH_take (i := 9) (v := ?_) rfl (by kernel_rfl) (by kernel_rfl) (by kernel_rfl) (fun _ _ _ h => h) (Or.inl ⟨by rfl, ?_⟩) (by assumption) ?_
    rotate_left
    · (intro w hSw; (try dsimp only at hSw); go_simp; all_goals with_reducible rfl)
    try simp only [Act.put, List.getElem_toArray, List.getElem_cons_zero, List.getElem_cons_succ, List.setIfInBounds_toArray, List.set_cons_zero, List.set_cons_succ]
    refine wpAnyH_take (i := 10) (v := ?_) rfl (by kernel_rfl) (by kernel_rfl) (by kernel_rfl) (fun _ _ _ h => h) (Or.inl ⟨by rfl, ?_⟩) (by assumption) ?_
    rotate_left
    · (intro w hSw; (try dsimp only at hSw); go_simp; all_goals with_reducible rfl)
    try simp only [Act.put, List.getElem_toArray, List.getElem_cons_zero, List.getElem_cons_succ, List.setIfInBounds_toArray, List.set_cons_zero, List.set_cons_succ]
    refine wpAnyH_take (i := 11) (v := ?_) rfl (by kernel_rfl) (by kernel_rfl) (by kernel_rfl) (fun _ _ _ h => h) (Or.inl ⟨by rfl, ?_⟩) (by assumption) ?_
    rotate_left
    · (intro w hSw; (try dsimp only at hSw); go_simp; all_goals with_reducible rfl)
    try simp only [Act.put, List.getElem_toArray, List.getElem_cons_zero, List.getElem_cons_succ, List.setIfInBounds_toArray, List.set_cons_zero, List.set_cons_succ]
    try simp only [Act.put, List.getElem?_toArray, List.getElem?_cons_zero, List.getElem?_cons_succ, List.setIfInBounds_toArray, List.set_cons_zero, List.set_cons_succ]
    refine wpAnyH_inv (fun a0 L a W => ∃ (c0 c1 c2 c3 d0 d1 d2 d3 : Bool) (x0 x1 x2 x3 : Value) (b0 b1 b2 b3 : Nat), L = #[true, true, true, true, true, true, true, true, true, true, true, true, c0, c1, c2, c3, d0, d1, d2, d3] ∧ a = (((a0.put (some 6) x0).put (some 7) x1).put (some 8) x2).put (some 9) x3 ∧ Below W1.heap.size W1 W ∧ (c0 = true → x0 = .pointer (some ⟨b0, 0, none⟩) ∧ JBox W b0 (if d0 then (p : Int) else 0) ∧ W1.heap.size ≤ b0) ∧ (c1 = true → x1 = .pointer (some ⟨b1, 0, none⟩) ∧ JBox W b1 (if d1 then (q : Int) else 0) ∧ W1.heap.size ≤ b1) ∧ (c2 = true → x2 = .pointer (some ⟨b2, 0, none⟩) ∧ JBox W b2 (if d2 then (u : Int) else 0) ∧ W1.heap.size ≤ b2) ∧ (c3 = true → x3 = .pointer (some ⟨b3, 0, none⟩) ∧ JBox W b3 (if d3 then (v : Int) else 0) ∧ W1.heap.size ≤ b3) ∧ (c0 = true → c1 = true → b0 ≠ b1) ∧ (c0 = true → c2 = true → b0 ≠ b2) ∧ (c0 = true → c3 = true → b0 ≠ b3) ∧ (c1 = true → c2 = true → b1 ≠ b2) ∧ (c1 = true → c3 = true → b1 ≠ b3) ∧ (c2 = true → c3 = true → b2 ≠ b3) ∧ (d0 = true → c0 = true) ∧ (d1 = true → c1 = true) ∧ (d2 = true → c2 = true) ∧ (d3 = true → c3 = true)) (by decide) ?_ ?_ ?_
    · exact ⟨false, false, false, false, false, false, false, false, undef, undef, undef, undef, 0, 0, 0, 0, rfl, (by kernel_rfl), bw (b0 _), (fun h => by cases h), (fun h => by cases h), (fun h => by cases h), (fun h => by cases h), (fun h => by cases h), (fun h => by cases h), (fun h => by cases h), (fun h => by cases h), (fun h => by cases h), (fun h => by cases h), (fun h => by cases h), (fun h => by cases h), (fun h => by cases h), (fun h => by cases h)⟩
    · rintro L a W i ⟨c0, c1, c2, c3, d0, d1, d2, d3, x0, x1, x2, x3, b0', b1, b2', b3, rfl, rfl, hb, h0, h1, h2, h3, n01, n02, n03, n12, n13, n23, e0, e1, e2, e3⟩ hi K hK
      have hun := (mem_ready.1 hi).1
      have hi20 : i < 20 := by
        rcases Nat.lt_or_ge i 20 with h | h
        · exact h
        · rw [Array.getD_eq_getD_getElem?, Array.getElem?_eq_none (by simpa using h)] at hun; cases hun
      have hcase : i = 12 ∨ i = 13 ∨ i = 14 ∨ i = 15 ∨ i = 16 ∨ i = 17 ∨ i = 18 ∨ i = 19 := by
        have h12 : ¬ i < 12 := fun h => by
          have : i = 0 ∨ i = 1 ∨ i = 2 ∨ i = 3 ∨ i = 4 ∨ i = 5 ∨ i = 6 ∨ i = 7 ∨ i = 8 ∨ i = 9 ∨ i = 10 ∨ i = 11 := by omega
          rcases this with rfl | rfl | rfl | rfl | rfl | rfl | rfl | rfl | rfl | rfl | rfl | rfl <;> cases hun
        omega
      rcases hcase with rfl | rfl | rfl | rfl | rfl | rfl | rfl | rfl
      · obtain rfl : c0 = false := hun
        have hd : d0 = false := by
          cases d0
          · rfl
          · exact absurd (e0 rfl) (by decide)
        subst hd
        refine wpOp_do rfl rfl ?_
        simp only [Act.put, List.setIfInBounds_toArray, List.set_cons_zero, List.set_cons_succ]
        go_simp
        refine hK.out _ _ (HS5.out _ (ba hb _)) ?_
        exact ⟨true, c1, c2, c3, false, d1, d2, d3, .pointer (some ⟨W.heap.size, 0, none⟩), x1, x2, x3, W.heap.size, b1, b2', b3, (by kernel_rfl), (by kernel_rfl), ba hb _, fun _ => ⟨rfl, JBox.new' rfl, hb.size⟩, fun h => ⟨(h1 h).1, ((h1 h).2.1).alloc _, (h1 h).2.2⟩, fun h => ⟨(h2 h).1, ((h2 h).2.1).alloc _, (h2 h).2.2⟩, fun h => ⟨(h3 h).1, ((h3 h).2.1).alloc _, (h3 h).2.2⟩, fun _ h => Nat.ne_of_gt ((h1 h).2.1.lt), fun _ h => Nat.ne_of_gt ((h2 h).2.1.lt), fun _ h => Nat.ne_of_gt ((h3 h).2.1.lt), n12, n13, n23, fun _ => rfl, e1, e2, e3⟩
      · obtain rfl : c1 = false := hun
        have hd : d1 = false := by
          cases d1
          · rfl
          · exact absurd (e1 rfl) (by decide)
        subst hd
        refine wpOp_do rfl rfl ?_
        simp only [Act.put, List.setIfInBounds_toArray, List.set_cons_zero, List.set_cons_succ]
        go_simp
        refine hK.out _ _ (HS5.out _ (ba hb _)) ?_
        exact ⟨c0, true, c2, c3, d0, false, d2, d3, x0, .pointer (some ⟨W.heap.size, 0, none⟩), x2, x3, b0', W.heap.size, b2', b3, (by kernel_rfl), (by kernel_rfl), ba hb _, fun h => ⟨(h0 h).1, ((h0 h).2.1).alloc _, (h0 h).2.2⟩, fun _ => ⟨rfl, JBox.new' rfl, hb.size⟩, fun h => ⟨(h2 h).1, ((h2 h).2.1).alloc _, (h2 h).2.2⟩, fun h => ⟨(h3 h).1, ((h3 h).2.1).alloc _, (h3 h).2.2⟩, fun h _ => Nat.ne_of_lt ((h0 h).2.1.lt), n02, n03, fun _ h => Nat.ne_of_gt ((h2 h).2.1.lt), fun _ h => Nat.ne_of_gt ((h3 h).2.1.lt), n23, e0, fun _ => rfl, e2, e3⟩
      · obtain rfl : c2 = false := hun
        have hd : d2 = false := by
          cases d2
          · rfl
          · exact absurd (e2 rfl) (by decide)
        subst hd
        refine wpOp_do rfl rfl ?_
        simp only [Act.put, List.setIfInBounds_toArray, List.set_cons_zero, List.set_cons_succ]
        go_simp
        refine hK.out _ _ (HS5.out _ (ba hb _)) ?_
        exact ⟨c0, c1, true, c3, d0, d1, false, d3, x0, x1, .pointer (some ⟨W.heap.size, 0, none⟩), x3, b0', b1, W.heap.size, b3, (by kernel_rfl), (by kernel_rfl), ba hb _, fun h => ⟨(h0 h).1, ((h0 h).2.1).alloc _, (h0 h).2.2⟩, fun h => ⟨(h1 h).1, ((h1 h).2.1).alloc _, (h1 h).2.2⟩, fun _ => ⟨rfl, JBox.new' rfl, hb.size⟩, fun h => ⟨(h3 h).1, ((h3 h).2.1).alloc _, (h3 h).2.2⟩, n01, fun h _ => Nat.ne_of_lt ((h0 h).2.1.lt), n03, fun h _ => Nat.ne_of_lt ((h1 h).2.1.lt), n13, fun _ h => Nat.ne_of_gt ((h3 h).2.1.lt), e0, e1, fun _ => rfl, e3⟩
      · obtain rfl : c3 = false := hun
        have hd : d3 = false := by
          cases d3
          · rfl
          · exact absurd (e3 rfl) (by decide)
        subst hd
        refine wpOp_do rfl rfl ?_
        simp only [Act.put, List.setIfInBounds_toArray, List.set_cons_zero, List.set_cons_succ]
        go_simp
        refine hK.out _ _ (HS5.out _ (ba hb _)) ?_
        exact ⟨c0, c1, c2, true, d0, d1, d2, false, x0, x1, x2, .pointer (some ⟨W.heap.size, 0, none⟩), b0', b1, b2', W.heap.size, (by kernel_rfl), (by kernel_rfl), ba hb _, fun h => ⟨(h0 h).1, ((h0 h).2.1).alloc _, (h0 h).2.2⟩, fun h => ⟨(h1 h).1, ((h1 h).2.1).alloc _, (h1 h).2.2⟩, fun h => ⟨(h2 h).1, ((h2 h).2.1).alloc _, (h2 h).2.2⟩, fun _ => ⟨rfl, JBox.new' rfl, hb.size⟩, n01, n02, fun h _ => Nat.ne_of_lt ((h0 h).2.1.lt), n12, fun h _ => Nat.ne_of_lt ((h1 h).2.1.lt), fun h _ => Nat.ne_of_lt ((h2 h).2.1.lt), e0, e1, e2, fun _ => rfl⟩
      · obtain rfl : d0 = false := hun
        have hedge := ready_edge (j := 12) hi rfl (by kernel_rfl)
        obtain rfl : c0 = true := hedge
        have hz := h0 rfl
        have hJ : JBox W b0' 0 := hz.2.1
        have hL := hz.2.2
        have hcell := hJ.cell
        rw [hz.1]
        clear hz
        have hfree := hJ.free 0
        refine wpOp_do rfl rfl ?_
        simp only [Act.put, List.setIfInBounds_toArray, List.set_cons_zero, List.set_cons_succ]
        go_simp
        refine hK.out _ _ (HS5.out _ (bs hb hL _)) ?_
        exact ⟨true, c1, c2, c3, true, d1, d2, d3, .pointer (some ⟨b0', 0, none⟩), x1, x2, x3, b0', b1, b2', b3, (by kernel_rfl), (by kernel_rfl), bs hb hL _, fun _ => ⟨rfl, hJ.store, hL⟩, fun h => ⟨(h1 h).1, ((h1 h).2.1).far ((n01 rfl h).symm) _, (h1 h).2.2⟩, fun h => ⟨(h2 h).1, ((h2 h).2.1).far ((n02 rfl h).symm) _, (h2 h).2.2⟩, fun h => ⟨(h3 h).1, ((h3 h).2.1).far ((n03 rfl h).symm) _, (h3 h).2.2⟩, n01, n02, n03, n12, n13, n23, fun _ => rfl, e1, e2, e3⟩
      · obtain rfl : d1 = false := hun
        have hedge := ready_edge (j := 13) hi rfl (by kernel_rfl)
        obtain rfl : c1 = true := hedge
        have hz := h1 rfl
        have hJ : JBox W b1 0 := hz.2.1
        have hL := hz.2.2
        have hcell := hJ.cell
        rw [hz.1]
        clear hz
        have hfree := hJ.free 0
        refine wpOp_do rfl rfl ?_
        simp only [Act.put, List.setIfInBounds_toArray, List.set_cons_zero, List.set_cons_succ]
        go_simp
        refine hK.out _ _ (HS5.out _ (bs hb hL _)) ?_
        exact ⟨c0, true, c2, c3, d0, true, d2, d3, x0, .pointer (some ⟨b1, 0, none⟩), x2, x3, b0', b1, b2', b3, (by kernel_rfl), (by kernel_rfl), bs hb hL _, fun h => ⟨(h0 h).1, ((h0 h).2.1).far (n01 h rfl) _, (h0 h).2.2⟩, fun _ => ⟨rfl, hJ.store, hL⟩, fun h => ⟨(h2 h).1, ((h2 h).2.1).far ((n12 rfl h).symm) _, (h2 h).2.2⟩, fun h => ⟨(h3 h).1, ((h3 h).2.1).far ((n13 rfl h).symm) _, (h3 h).2.2⟩, n01, n02, n03, n12, n13, n23, e0, fun _ => rfl, e2, e3⟩
      · obtain rfl : d2 = false := hun
        have hedge := ready_edge (j := 14) hi rfl (by kernel_rfl)
        obtain rfl : c2 = true := hedge
        have hz := h2 rfl
        have hJ : JBox W b2' 0 := hz.2.1
        have hL := hz.2.2
        have hcell := hJ.cell
        rw [hz.1]
        clear hz
        have hfree := hJ.free 0
        refine wpOp_do rfl rfl ?_
        simp only [Act.put, List.setIfInBounds_toArray, List.set_cons_zero, List.set_cons_succ]
        go_simp
        refine hK.out _ _ (HS5.out _ (bs hb hL _)) ?_
        exact ⟨c0, c1, true, c3, d0, d1, true, d3, x0, x1, .pointer (some ⟨b2', 0, none⟩), x3, b0', b1, b2', b3, (by kernel_rfl), (by kernel_rfl), bs hb hL _, fun h => ⟨(h0 h).1, ((h0 h).2.1).far (n02 h rfl) _, (h0 h).2.2⟩, fun h => ⟨(h1 h).1, ((h1 h).2.1).far (n12 h rfl) _, (h1 h).2.2⟩, fun _ => ⟨rfl, hJ.store, hL⟩, fun h => ⟨(h3 h).1, ((h3 h).2.1).far ((n23 rfl h).symm) _, (h3 h).2.2⟩, n01, n02, n03, n12, n13, n23, e0, e1, fun _ => rfl, e3⟩
      · obtain rfl : d3 = false := hun
        have hedge := ready_edge (j := 15) hi rfl (by kernel_rfl)
        obtain rfl : c3 = true := hedge
        have hz := h3 rfl
        have hJ : JBox W b3 0 := hz.2.1
        have hL := hz.2.2
        have hcell := hJ.cell
        rw [hz.1]
        clear hz
        have hfree := hJ.free 0
        refine wpOp_do rfl rfl ?_
        simp only [Act.put, List.setIfInBounds_toArray, List.set_cons_zero, List.set_cons_succ]
        go_simp
        refine hK.out _ _ (HS5.out _ (bs hb hL _)) ?_
        exact ⟨c0, c1, c2, true, d0, d1, d2, true, x0, x1, x2, .pointer (some ⟨b3, 0, none⟩), b0', b1, b2', b3, (by kernel_rfl), (by kernel_rfl), bs hb hL _, fun h => ⟨(h0 h).1, ((h0 h).2.1).far (n03 h rfl) _, (h0 h).2.2⟩, fun h => ⟨(h1 h).1, ((h1 h).2.1).far (n13 h rfl) _, (h1 h).2.2⟩, fun h => ⟨(h2 h).1, ((h2 h).2.1).far (n23 h rfl) _, (h2 h).2.2⟩, fun _ => ⟨rfl, hJ.store, hL⟩, n01, n02, n03, n12, n13, n23, e0, e1, e2, fun _ => rfl⟩
    · rintro L a W ⟨c0, c1, c2, c3, d0, d1, d2, d3, x0, x1, x2, x3, b0', b1, b2', b3, rfl, rfl, hb, h0, h1, h2, h3, n01, n02, n03, n12, n13, n23, e0, e1, e2, e3⟩ hr
      have hall : (c0 && c1 && c2 && c3 && d0 && d1 && d2 && d3) = true := by
        clear h0 h1 h2 h3 n01 n02 n03 n12 n13 n23 e0 e1 e2 e3
        revert c0 c1 c2 c3 d0 d1 d2 d3
        decide +kernel
      simp only [Bool.and_eq_true] at hall
      obtain ⟨⟨⟨⟨⟨⟨⟨rfl, rfl⟩, rfl⟩, rfl⟩, rfl⟩, rfl⟩, rfl⟩, rfl⟩ := hall
      have z0 := h0 rfl
      have z1 := h1 rfl
      have z2 := h2 rfl
      have z3 := h3 rfl
      clear h0 h1 h2 h3 e0 e1 e2 e3 hr
      have HZ := Lib.hid (show FourJ W1 p q u v x0 x1 x2 x3 W from ⟨b0', b1, b2', b3, z0.1, z1.1, z2.1, z3.1, z0.2.1, z1.2.1, z2.2.1, z3.2.1, ⟨z0.2.2, z1.2.2, z2.2.2, z3.2.2⟩, ⟨n01 rfl rfl, n02 rfl rfl, n03 rfl rfl, n12 rfl rfl, n13 rfl rfl, n23 rfl rfl⟩, hb⟩)
      clear z0 z1 z2 z3 n01 n02 n03 n12 n13 n23
      go_wp2_with fail
      try simp only [Act.put, List.setIfInBounds_toArray, List.set_cons_zero, List.set_cons_succ]
      go_meet
      exact HZ.out
  case rest =>
    obtain ⟨b1, b2, b3, b4, rfl, rfl, rfl, rfl, j1, j2, j3, j4, ⟨g1, g2, g3, g4⟩, ⟨Bn12, Bn13, Bn14, Bn23, Bn24, Bn34⟩, hb2⟩ := hcut
    obtain ⟨W2, hW2⟩ : ∃ v, v = wc := ⟨_, rfl⟩
    rw [← hW2] at j1 j2 j3 j4 hb2 ⊢
    clear hW2 wc
    have hs1 := hw1.size
    go_upto_if 22 with fail
    go_cut [] (fun wx => FourB b1 b2 b3 b4 (sg odd p) (sg odd q) (sg odd u) (sg odd v) W1 wx)
    case first =>
      cases odd
      · go_wp2_with fail
        go_meet
        exact ⟨j1, j2, j3, j4, hb2⟩
      · have c1 := j1.cell
        have c2 := j2.cell
        have c3 := j3.cell
        have c4 := j4.cell
        have f1 := j1.free 0
        have f2 := j2.free 0
        have f3 := j3.free 0
        have f4 := j4.free 0
        have l1 := j1.lt
        have l2 := j2.lt
        have l3 := j3.lt
        have l4 := j4.lt
        obtain ⟨p', hp'⟩ : ∃ z, z = -(p : Int) := ⟨_, rfl⟩
        obtain ⟨q', hq'⟩ : ∃ z, z = -(q : Int) := ⟨_, rfl⟩
        obtain ⟨u', hu'⟩ : ∃ z, z = -(u : Int) := ⟨_, rfl⟩
        obtain ⟨v', hv'⟩ : ∃ z, z = -(v : Int) := ⟨_, rfl⟩
        have wp : IntKind.i64.wrap (-(p : Int)) = p' := by rw [hp']; exact IntWalk.i64_in _ ⟨by omega, by omega⟩
        have wq : IntKind.i64.wrap (-(q : Int)) = q' := by rw [hq']; exact IntWalk.i64_in _ ⟨by omega, by omega⟩
        have wu : IntKind.i64.wrap (-(u : Int)) = u' := by rw [hu']; exact IntWalk.i64_in _ ⟨by omega, by omega⟩
        have wv : IntKind.i64.wrap (-(v : Int)) = v' := by rw [hv']; exact IntWalk.i64_in _ ⟨by omega, by omega⟩
        have HP := Lib.hid (show sg true p = p' ∧ sg true q = q' ∧ sg true u = u' ∧ sg true v = v' from ⟨hp'.symm, hq'.symm, hu'.symm, hv'.symm⟩)
        clear hp' hq' hu' hv'
        go_upto_region 3 with fail
        refine wp_region_held_drew (S := fun _ => True) (by kernel_rfl) trivial (fun hHeld => ?_)
        clear hHeld
        refine wpAnyH_inv (fun a0 L a W => ∃ (l0 l1 l2 l3 n0 n1 n2 n3 s0 s1 s2 s3 : Bool) (x0 x1 x2 x3 y0 y1 y2 y3 : Value), L = #[l0, n0, l1, n1, l2, n2, l3, n3, s0, s1, s2, s3] ∧ a = ((((((((a0.put (some 23) x0).put (some 24) y0).put (some 25) x1).put (some 26) y1).put (some 27) x2).put (some 28) y2).put (some 29) x3).put (some 30) y3) ∧ Below W1.heap.size W1 W ∧ JBox W b1 (if s0 then p' else (p : Int)) ∧ JBox W b2 (if s1 then q' else (q : Int)) ∧ JBox W b3 (if s2 then u' else (u : Int)) ∧ JBox W b4 (if s3 then v' else (v : Int)) ∧ (l0 = true → x0 = .int .i64 (p : Int)) ∧ (l1 = true → x1 = .int .i64 (q : Int)) ∧ (l2 = true → x2 = .int .i64 (u : Int)) ∧ (l3 = true → x3 = .int .i64 (v : Int)) ∧ (n0 = true → y0 = .int .i64 p') ∧ (n1 = true → y1 = .int .i64 q') ∧ (n2 = true → y2 = .int .i64 u') ∧ (n3 = true → y3 = .int .i64 v') ∧ (n0 = true → l0 = true) ∧ (n1 = true → l1 = true) ∧ (n2 = true → l2 = true) ∧ (n3 = true → l3 = true) ∧ (s0 = true → n0 = true) ∧ (s1 = true → n1 = true) ∧ (s2 = true → n2 = true) ∧ (s3 = true → n3 = true)) (by decide) ?_ ?_ ?_
        · exact ⟨false, false, false, false, false, false, false, false, false, false, false, false, _, _, _, _, _, _, _, _, rfl, put8 _, bw hb2, j1, j2, j3, j4, (fun h => by cases h), (fun h => by cases h), (fun h => by cases h), (fun h => by cases h), (fun h => by cases h), (fun h => by cases h), (fun h => by cases h), (fun h => by cases h), (fun h => by cases h), (fun h => by cases h), (fun h => by cases h), (fun h => by cases h), (fun h => by cases h), (fun h => by cases h), (fun h => by cases h), (fun h => by cases h)⟩
        · rintro L a W i ⟨l0, l1, l2, l3, n0, n1, n2, n3, s0, s1, s2, s3, x0, x1, x2, x3, y0, y1, y2, y3, rfl, rfl, hb, k0, k1, k2, k3, ex0, ex1, ex2, ex3, ey0, ey1, ey2, ey3, nl0, nl1, nl2, nl3, sn0, sn1, sn2, sn3⟩ hi K hK
          have hun := (mem_ready.1 hi).1
          have hi12 : i < 12 := by
            rcases Nat.lt_or_ge i 12 with h | h
            · exact h
            · rw [Array.getD_eq_getD_getElem?, Array.getElem?_eq_none (by simpa using h)] at hun; cases hun
          have hcase : i = 0 ∨ i = 1 ∨ i = 2 ∨ i = 3 ∨ i = 4 ∨ i = 5 ∨ i = 6 ∨ i = 7 ∨ i = 8 ∨ i = 9 ∨ i = 10 ∨ i = 11 := by omega
          rcases hcase with rfl | rfl | rfl | rfl | rfl | rfl | rfl | rfl | rfl | rfl | rfl | rfl
          · obtain rfl : l0 = false := hun
            have hn : n0 = false := by
              cases n0
              · rfl
              · exact absurd (nl0 rfl) (by decide)
            subst hn
            have hs : s0 = false := by
              cases s0
              · rfl
              · exact absurd (sn0 rfl) (by decide)
            subst hs
            have hJ : JBox W b1 (p : Int) := k0
            have hcell := hJ.cell
            refine wpOp_do rfl rfl ?_
            simp only [Act.put, List.setIfInBounds_toArray, List.set_cons_zero, List.set_cons_succ]
            go_simp
            refine hK.out _ _ trivial ?_
            exact ⟨true, l1, l2, l3, false, n1, n2, n3, false, s1, s2, s3, .int .i64 (p : Int), x1, x2, x3, y0, y1, y2, y3, (by kernel_rfl), (by kernel_rfl), hb, hJ, k1, k2, k3, fun _ => rfl, ex1, ex2, ex3, (fun h => by cases h), ey1, ey2, ey3, (fun h => by cases h), nl1, nl2, nl3, (fun h => by cases h), sn1, sn2, sn3⟩
          · obtain rfl : n0 = false := hun
            have hs : s0 = false := by
              cases s0
              · rfl
              · exact absurd (sn0 rfl) (by decide)
            subst hs
            have hJ : JBox W b1 (p : Int) := k0
            have hedge := ready_edge (j := 0) hi rfl (by kernel_rfl)
            obtain rfl : l0 = true := hedge
            obtain rfl := ex0 rfl
            refine wpOp_do rfl rfl ?_
            simp only [Act.put, List.setIfInBounds_toArray, List.set_cons_zero, List.set_cons_succ]
            go_simp
            refine hK.out _ _ trivial ?_
            exact ⟨true, l1, l2, l3, true, n1, n2, n3, false, s1, s2, s3, .int .i64 (p : Int), x1, x2, x3, .int .i64 p', y1, y2, y3, (by kernel_rfl), (by kernel_rfl), hb, hJ, k1, k2, k3, fun _ => rfl, ex1, ex2, ex3, fun _ => rfl, ey1, ey2, ey3, fun _ => rfl, nl1, nl2, nl3, (fun h => by cases h), sn1, sn2, sn3⟩
          · obtain rfl : l1 = false := hun
            have hn : n1 = false := by
              cases n1
              · rfl
              · exact absurd (nl1 rfl) (by decide)
            subst hn
            have hs : s1 = false := by
              cases s1
              · rfl
              · exact absurd (sn1 rfl) (by decide)
            subst hs
            have hJ : JBox W b2 (q : Int) := k1
            have hcell := hJ.cell
            refine wpOp_do rfl rfl ?_
            simp only [Act.put, List.setIfInBounds_toArray, List.set_cons_zero, List.set_cons_succ]
            go_simp
            refine hK.out _ _ trivial ?_
            exact ⟨l0, true, l2, l3, n0, false, n2, n3, s0, false, s2, s3, x0, .int .i64 (q : Int), x2, x3, y0, y1, y2, y3, (by kernel_rfl), (by kernel_rfl), hb, k0, hJ, k2, k3, ex0, fun _ => rfl, ex2, ex3, ey0, (fun h => by cases h), ey2, ey3, nl0, (fun h => by cases h), nl2, nl3, sn0, (fun h => by cases h), sn2, sn3⟩
          · obtain rfl : n1 = false := hun
            have hs : s1 = false := by
              cases s1
              · rfl
              · exact absurd (sn1 rfl) (by decide)
            subst hs
            have hJ : JBox W b2 (q : Int) := k1
            have hedge := ready_edge (j := 2) hi rfl (by kernel_rfl)
            obtain rfl : l1 = true := hedge
            obtain rfl := ex1 rfl
            refine wpOp_do rfl rfl ?_
            simp only [Act.put, List.setIfInBounds_toArray, List.set_cons_zero, List.set_cons_succ]
            go_simp
            refine hK.out _ _ trivial ?_
            exact ⟨l0, true, l2, l3, n0, true, n2, n3, s0, false, s2, s3, x0, .int .i64 (q : Int), x2, x3, y0, .int .i64 q', y2, y3, (by kernel_rfl), (by kernel_rfl), hb, k0, hJ, k2, k3, ex0, fun _ => rfl, ex2, ex3, ey0, fun _ => rfl, ey2, ey3, nl0, fun _ => rfl, nl2, nl3, sn0, (fun h => by cases h), sn2, sn3⟩
          · obtain rfl : l2 = false := hun
            have hn : n2 = false := by
              cases n2
              · rfl
              · exact absurd (nl2 rfl) (by decide)
            subst hn
            have hs : s2 = false := by
              cases s2
              · rfl
              · exact absurd (sn2 rfl) (by decide)
            subst hs
            have hJ : JBox W b3 (u : Int) := k2
            have hcell := hJ.cell
            refine wpOp_do rfl rfl ?_
            simp only [Act.put, List.setIfInBounds_toArray, List.set_cons_zero, List.set_cons_succ]
            go_simp
            refine hK.out _ _ trivial ?_
            exact ⟨l0, l1, true, l3, n0, n1, false, n3, s0, s1, false, s3, x0, x1, .int .i64 (u : Int), x3, y0, y1, y2, y3, (by kernel_rfl), (by kernel_rfl), hb, k0, k1, hJ, k3, ex0, ex1, fun _ => rfl, ex3, ey0, ey1, (fun h => by cases h), ey3, nl0, nl1, (fun h => by cases h), nl3, sn0, sn1, (fun h => by cases h), sn3⟩
          · obtain rfl : n2 = false := hun
            have hs : s2 = false := by
              cases s2
              · rfl
              · exact absurd (sn2 rfl) (by decide)
            subst hs
            have hJ : JBox W b3 (u : Int) := k2
            have hedge := ready_edge (j := 4) hi rfl (by kernel_rfl)
            obtain rfl : l2 = true := hedge
            obtain rfl := ex2 rfl
            refine wpOp_do rfl rfl ?_
            simp only [Act.put, List.setIfInBounds_toArray, List.set_cons_zero, List.set_cons_succ]
            go_simp
            refine hK.out _ _ trivial ?_
            exact ⟨l0, l1, true, l3, n0, n1, true, n3, s0, s1, false, s3, x0, x1, .int .i64 (u : Int), x3, y0, y1, .int .i64 u', y3, (by kernel_rfl), (by kernel_rfl), hb, k0, k1, hJ, k3, ex0, ex1, fun _ => rfl, ex3, ey0, ey1, fun _ => rfl, ey3, nl0, nl1, fun _ => rfl, nl3, sn0, sn1, (fun h => by cases h), sn3⟩
          · obtain rfl : l3 = false := hun
            have hn : n3 = false := by
              cases n3
              · rfl
              · exact absurd (nl3 rfl) (by decide)
            subst hn
            have hs : s3 = false := by
              cases s3
              · rfl
              · exact absurd (sn3 rfl) (by decide)
            subst hs
            have hJ : JBox W b4 (v : Int) := k3
            have hcell := hJ.cell
            refine wpOp_do rfl rfl ?_
            simp only [Act.put, List.setIfInBounds_toArray, List.set_cons_zero, List.set_cons_succ]
            go_simp
            refine hK.out _ _ trivial ?_
            exact ⟨l0, l1, l2, true, n0, n1, n2, false, s0, s1, s2, false, x0, x1, x2, .int .i64 (v : Int), y0, y1, y2, y3, (by kernel_rfl), (by kernel_rfl), hb, k0, k1, k2, hJ, ex0, ex1, ex2, fun _ => rfl, ey0, ey1, ey2, (fun h => by cases h), nl0, nl1, nl2, (fun h => by cases h), sn0, sn1, sn2, (fun h => by cases h)⟩
          · obtain rfl : n3 = false := hun
            have hs : s3 = false := by
              cases s3
              · rfl
              · exact absurd (sn3 rfl) (by decide)
            subst hs
            have hJ : JBox W b4 (v : Int) := k3
            have hedge := ready_edge (j := 6) hi rfl (by kernel_rfl)
            obtain rfl : l3 = true := hedge
            obtain rfl := ex3 rfl
            refine wpOp_do rfl rfl ?_
            simp only [Act.put, List.setIfInBounds_toArray, List.set_cons_zero, List.set_cons_succ]
            go_simp
            refine hK.out _ _ trivial ?_
            exact ⟨l0, l1, l2, true, n0, n1, n2, true, s0, s1, s2, false, x0, x1, x2, .int .i64 (v : Int), y0, y1, y2, .int .i64 v', (by kernel_rfl), (by kernel_rfl), hb, k0, k1, k2, hJ, ex0, ex1, ex2, fun _ => rfl, ey0, ey1, ey2, fun _ => rfl, nl0, nl1, nl2, fun _ => rfl, sn0, sn1, sn2, (fun h => by cases h)⟩
          · obtain rfl : s0 = false := hun
            have hJ : JBox W b1 (p : Int) := k0
            have hedge := ready_edge (j := 1) hi rfl (by kernel_rfl)
            obtain rfl : n0 = true := hedge
            obtain rfl := ey0 rfl
            obtain rfl : l0 = true := nl0 rfl
            obtain rfl := ex0 rfl
            have hcell := hJ.cell
            have hfree := hJ.free 0
            refine wpOp_do rfl rfl ?_
            simp only [Act.put, List.setIfInBounds_toArray, List.set_cons_zero, List.set_cons_succ]
            go_simp
            refine hK.out _ _ trivial ?_
            exact ⟨true, l1, l2, l3, true, n1, n2, n3, true, s1, s2, s3, .int .i64 (p : Int), x1, x2, x3, .int .i64 p', y1, y2, y3, (by kernel_rfl), (by kernel_rfl), bs (p := ⟨b1, 0, none⟩) hb g1 _, hJ.store, k1.far Bn12.symm _, k2.far Bn13.symm _, k3.far Bn14.symm _, fun _ => rfl, ex1, ex2, ex3, fun _ => rfl, ey1, ey2, ey3, fun _ => rfl, nl1, nl2, nl3, fun _ => rfl, sn1, sn2, sn3⟩
          · obtain rfl : s1 = false := hun
            have hJ : JBox W b2 (q : Int) := k1
            have hedge := ready_edge (j := 3) hi rfl (by kernel_rfl)
            obtain rfl : n1 = true := hedge
            obtain rfl := ey1 rfl
            obtain rfl : l1 = true := nl1 rfl
            obtain rfl := ex1 rfl
            have hcell := hJ.cell
            have hfree := hJ.free 0
            refine wpOp_do rfl rfl ?_
            simp only [Act.put, List.setIfInBounds_toArray, List.set_cons_zero, List.set_cons_succ]
            go_simp
            refine hK.out _ _ trivial ?_
            exact ⟨l0, true, l2, l3, n0, true, n2, n3, s0, true, s2, s3, x0, .int .i64 (q : Int), x2, x3, y0, .int .i64 q', y2, y3, (by kernel_rfl), (by kernel_rfl), bs (p := ⟨b2, 0, none⟩) hb g2 _, k0.far Bn12 _, hJ.store, k2.far Bn23.symm _, k3.far Bn24.symm _, ex0, fun _ => rfl, ex2, ex3, ey0, fun _ => rfl, ey2, ey3, nl0, fun _ => rfl, nl2, nl3, sn0, fun _ => rfl, sn2, sn3⟩
          · obtain rfl : s2 = false := hun
            have hJ : JBox W b3 (u : Int) := k2
            have hedge := ready_edge (j := 5) hi rfl (by kernel_rfl)
            obtain rfl : n2 = true := hedge
            obtain rfl := ey2 rfl
            obtain rfl : l2 = true := nl2 rfl
            obtain rfl := ex2 rfl
            have hcell := hJ.cell
            have hfree := hJ.free 0
            refine wpOp_do rfl rfl ?_
            simp only [Act.put, List.setIfInBounds_toArray, List.set_cons_zero, List.set_cons_succ]
            go_simp
            refine hK.out _ _ trivial ?_
            exact ⟨l0, l1, true, l3, n0, n1, true, n3, s0, s1, true, s3, x0, x1, .int .i64 (u : Int), x3, y0, y1, .int .i64 u', y3, (by kernel_rfl), (by kernel_rfl), bs (p := ⟨b3, 0, none⟩) hb g3 _, k0.far Bn13 _, k1.far Bn23 _, hJ.store, k3.far Bn34.symm _, ex0, ex1, fun _ => rfl, ex3, ey0, ey1, fun _ => rfl, ey3, nl0, nl1, fun _ => rfl, nl3, sn0, sn1, fun _ => rfl, sn3⟩
          · obtain rfl : s3 = false := hun
            have hJ : JBox W b4 (v : Int) := k3
            have hedge := ready_edge (j := 7) hi rfl (by kernel_rfl)
            obtain rfl : n3 = true := hedge
            obtain rfl := ey3 rfl
            obtain rfl : l3 = true := nl3 rfl
            obtain rfl := ex3 rfl
            have hcell := hJ.cell
            have hfree := hJ.free 0
            refine wpOp_do rfl rfl ?_
            simp only [Act.put, List.setIfInBounds_toArray, List.set_cons_zero, List.set_cons_succ]
            go_simp
            refine hK.out _ _ trivial ?_
            exact ⟨l0, l1, l2, true, n0, n1, n2, true, s0, s1, s2, true, x0, x1, x2, .int .i64 (v : Int), y0, y1, y2, .int .i64 v', (by kernel_rfl), (by kernel_rfl), bs (p := ⟨b4, 0, none⟩) hb g4 _, k0.far Bn14 _, k1.far Bn24 _, k2.far Bn34 _, hJ.store, ex0, ex1, ex2, fun _ => rfl, ey0, ey1, ey2, fun _ => rfl, nl0, nl1, nl2, fun _ => rfl, sn0, sn1, sn2, fun _ => rfl⟩
        · rintro L a W ⟨l0, l1, l2, l3, n0, n1, n2, n3, s0, s1, s2, s3, x0, x1, x2, x3, y0, y1, y2, y3, rfl, rfl, hb, k0, k1, k2, k3, ex0, ex1, ex2, ex3, ey0, ey1, ey2, ey3, nl0, nl1, nl2, nl3, sn0, sn1, sn2, sn3⟩ hr
          obtain rfl : l0 = true := up_of (i := 0) hr rfl (by kernel_rfl)
          obtain rfl : l1 = true := up_of (i := 2) hr rfl (by kernel_rfl)
          obtain rfl : l2 = true := up_of (i := 4) hr rfl (by kernel_rfl)
          obtain rfl : l3 = true := up_of (i := 6) hr rfl (by kernel_rfl)
          obtain rfl : n0 = true := up_of (i := 1) hr rfl (by kernel_rfl)
          obtain rfl : n1 = true := up_of (i := 3) hr rfl (by kernel_rfl)
          obtain rfl : n2 = true := up_of (i := 5) hr rfl (by kernel_rfl)
          obtain rfl : n3 = true := up_of (i := 7) hr rfl (by kernel_rfl)
          obtain rfl : s0 = true := up_of (i := 8) hr rfl (by kernel_rfl)
          obtain rfl : s1 = true := up_of (i := 9) hr rfl (by kernel_rfl)
          obtain rfl : s2 = true := up_of (i := 10) hr rfl (by kernel_rfl)
          obtain rfl : s3 = true := up_of (i := 11) hr rfl (by kernel_rfl)
          have HZ := Lib.hid (show FourB b1 b2 b3 b4 p' q' u' v' W1 W from ⟨k0, k1, k2, k3, hb⟩)
          clear k0 k1 k2 k3 ex0 ex1 ex2 ex3 ey0 ey1 ey2 ey3 nl0 nl1 nl2 nl3 sn0 sn1 sn2 sn3 hr
          go_wp2_with fail
          try simp only [Act.put, List.setIfInBounds_toArray, List.set_cons_zero, List.set_cons_succ]
          go_meet
          obtain ⟨e1, e2, e3, e4⟩ := HP.out
          rw [e1, e2, e3, e4]
          exact HZ.out
    case rest =>
      obtain ⟨j1, j2, j3, j4, hb3⟩ := hcut
      obtain ⟨W3, hW3⟩ : ∃ v, v = wc := ⟨_, rfl⟩
      rw [← hW3] at j1 j2 j3 j4 hb3 ⊢
      clear hW3 wc
      have lsw := h.cells.lt
      have lga := hba.lt
      have lgb := hbb.lt
      have hs3 := (h.cells.below hw1).below hb3
      have ba3 := (hba.below hw1).below hb3
      have bb3 := (hbb.below hw1).below hb3
      have pb3 := pb1.below hb3
      have hT3 := hT1.below hb3
      have hX3 := (h.ox.ws.below hw1).below hb3
      have hY3 := (h.oy.ws.below hw1).below hb3
      have hel3 := bt (bt h.bel hw1) hb3
      have c5 := pb3.cell
      have e0 := hs3.at_ 0
      have e1 := hs3.at_ 1
      simp at e0 e1
      have l1 := j1.lt
      have l2 := j2.lt
      have l3 := j3.lt
      have l4 := j4.lt
      have l5 := pb3.lt
      have l6 := hT3.lt
      have l7 := hs3.lt
      have hps : w.heap.size ≠ s := by omega
      have hsz3 := hb3.size
      have HAP := Lib.hid (show Apart s ga gb b1 b2 b4 b3 w.heap.size from ⟨hgab, fun e => hsa e.symm, fun e => hsb e.symm, by omega, by omega, by omega, by omega, by omega, by omega, by omega, by omega, by omega, by omega⟩)
      have hJ := Lib.hid (And.intro j1 (And.intro j2 (And.intro j3 j4)))
      clear j1 j2 j3 j4
      have HF := Lib.hid (foldC 196 (.pointer (some ⟨b1, 0, none⟩)) (.pointer (some ⟨b2, 0, none⟩)) (.pointer (some ⟨b4, 0, none⟩)) (.pointer (some ⟨b3, 0, none⟩)) (.pointer (some ⟨w.heap.size, 0, none⟩)) ga gb (some ⟨gb, 0, none⟩) la.length ca lb.length cb la lb (TurnI W3.drew s ga gb b1 b2 b4 b3 w.heap.size la.length lb.length ca cb (.slice X lx.length cx) (.slice Y ly.length cy) (.bool o) (sg odd p) (sg odd q) (sg odd u) (sg odd v) la lb La Lb) W3.drew (by omega) (by omega) h.oa.cap ba3.lt bb3.lt enters_turn (fun i x y W hi hI => turnI_a hi hna HTA.out hI) (fun i x y W hi hI => turnI_b hnb rfl HTB.out hI) (fun i x y W W' fb hI hf hO => hI.fresh hO hf ⟨ba3.lt, bb3.lt, l1, l2, l4, l3, l5, l7⟩) (fun i x y W hi hI => turn1_any W3.drew s ga gb b1 b2 b4 b3 w.heap.size la.length lb.length ca cb (.slice X lx.length cx) (.slice Y ly.length cy) (.bool o) (sg odd p) (sg odd q) (sg odd u) (sg odd v) la lb La Lb i x y W hi hna hnb (by omega) (by omega) h.oa.ws.1 h.ob.ws.1 (sg_two odd p q) (sg_two odd v u) (sg_bd odd hp) (sg_bd odd hq) (sg_bd odd hu) (sg_bd odd hv) HAP.out hI) (⟨[], [], by omega, by omega, rfl, rfl, by simp, by simp, by simp [val], by simp [val], by unfold lay; rw [List.take_nil, spl_nil]; exact ba3, by unfold lay; rw [List.take_nil, spl_nil]; exact bb3, hJ.out.1, hJ.out.2.1, hJ.out.2.2.2, hJ.out.2.2.1, pb3, hs3, on2_refl _ _ _⟩))
      clear hJ
      go_upto_region 4 with fail
      go_region_held3 (fun W => W.cell? ⟨w.heap.size, 0, none⟩ = some (.pointer (some ⟨s, 0, none⟩)) ∧ W.cell? ⟨s, 0, none⟩ = some (.slice (some ⟨ga, 0, none⟩) la.length ca) ∧ W.cell? ⟨s, 1, none⟩ = some (.slice (some ⟨gb, 0, none⟩) lb.length cb))
        (first | exact ⟨c5, e0, e1⟩ | exact ⟨y5, y0, y1⟩)
        (first
          | (go_at_call 195; refine HF.out.mono ?_; rintro e w4 ⟨x, y, rfl, Sa, Sb, hx12, hy12, hSa, hSb, hSaw, hSbw, hva, hvb, ba4, bb4, k1', k2', k3', k4', pb4, hs4, hO4⟩; have HVV := Lib.hid (And.intro hSa (And.intro hSb (And.intro hva hvb))); clear hSa hSb hva hvb k1' k2' k3' k4'; have y5 := pb4.cell; have y0 := hs4.at_ 0; have y1 := hs4.at_ 1; simp at y0 y1))
      rename_i hHeld4
      clear hHeld4
      have hO4' : On2 ga gb W3 w4 := hO4
      have hszA : w.heap.size ≤ w4.heap.size := Nat.le_trans hw1.size (Nat.le_trans hb3.size hO4'.2.2.2.1)
      have hT4 := hT3.on2 hO4' (by omega) (by omega)
      have hX4 := hX3.on2 hO4' hXa hXb
      have hY4 := hY3.on2 hO4' hYa hYb
      have hel4 := below_on2 hel3 hO4' hga hgb
      have hXs : Off X lx s := ws_off_cells h.ox.ws h.cells
      have hYs : Off Y ly s := ws_off_cells h.oy.ws h.cells
      obtain ⟨hSa, hSb, hva, hvb⟩ := HVV.out
      rw [List.take_length, List.take_of_length_le hlab, (ts_sg ht).1] at hva
      rw [List.take_length, List.take_of_length_le hlab, (ts_sg ht).2] at hvb
      obtain ⟨-, vSa⟩ := no_carry hSa hSaw hva (Nat.lt_of_le_of_lt ht.le_a (val_lt h.oa.ws.1))
      have hB1 : B1 < BB lb.length := Nat.lt_of_le_of_lt (ht.le_b hBA) (val_lt h.ob.ws.1)
      obtain ⟨-, vSb⟩ := no_carry hSb hSbw hvb (Nat.lt_of_lt_of_le hB1 (BB_mono hlab))
      have HVA := Lib.hid (show val ((lay La la.length Sa).take la.length) = A1 by rw [lay_take hSa (Nat.le_refl _), List.take_of_length_le (by omega)]; exact vSa)
      have HVB := Lib.hid (show val ((lay Lb lb.length Sb).take lb.length) = B1 by rw [lay_take hSb hlab, val_take_lt (by rw [vSb]; exact hB1) (by omega)]; exact vSb)
      have HLA := Lib.hid (show (lay La la.length Sa).length = La.length from lay_length hna)
      have HLB := Lib.hid (show (lay Lb lb.length Sb).length = Lb.length from lay_length hnb)
      clear HVV hSa hSb hva hvb vSa vSb hB1 hO4 hO4' HF HAP y5 y0 y1 e0 e1 hX3 hY3 hT3 hs3 ba3 bb3 pb3 hel3
      have c5 := pb4.cell
      have e0 := hs4.at_ 0
      have e1 := hs4.at_ 1
      simp at e0 e1
      go_upto_region 5 with fail
      refine wp_region_cutH 12 1 (fun W => W.cell? ⟨w.heap.size, 0, none⟩ = some (.pointer (some ⟨s, 0, none⟩))) (fun W => W.cell? ⟨w.heap.size, 0, none⟩ = some (.pointer (some ⟨s, 0, none⟩)) ∧ W.cell? ⟨s, 0, none⟩ = some (.slice (some ⟨ga, 0, none⟩) la.length ca) ∧ W.cell? ⟨s, 1, none⟩ = some (.slice (some ⟨gb, 0, none⟩) lb.length cb)) (by kernel_rfl) (by decide) (fun _ h => h.1) (by kernel_rfl) (by kernel_rfl) rfl (by kernel_rfl) (by kernel_rfl) (by kernel_rfl) (fun _ _ _ h => h) (v := .pointer (some ⟨s, 0, none⟩)) (.inl ⟨by rfl, fun W hSw => by (try dsimp only at hSw); go_simp⟩) ⟨c5, e0, e1⟩ (fun hHeld => ?_)
      simp only [List.take_succ_cons, List.take_zero, List.drop_succ_cons, List.drop_zero, Nat.reduceSub, Act.put, List.setIfInBounds_toArray, List.set_cons_zero, List.set_cons_succ]
      obtain ⟨Wd, hWd⟩ : ∃ W, W = w4.drew := ⟨_, rfl⟩
      rw [← hWd] at hHeld ⊢
      have pbd : PBox Wd w.heap.size s := by rw [hWd]; exact pb4
      have hsd : Cells Wd s 125 #[.slice (some ⟨ga, 0, none⟩) la.length ca, .slice (some ⟨gb, 0, none⟩) lb.length cb, .slice X lx.length cx, .slice Y ly.length cy, .bool o] := by rw [hWd]; exact hs4
      have bad : Blk Wd ga (lay La la.length Sa) := by rw [hWd]; exact ba4
      have bbd : Blk Wd gb (lay Lb lb.length Sb) := by rw [hWd]; exact bb4
      have hTd : Cells Wd (w.heap.size + 1) 150 #[.int .u64 (p : Int), .int .u64 (q : Int), .int .u64 (u : Int), .int .u64 (v : Int)] := by rw [hWd]; exact hT4
      have hXd : WS Wd X lx := by rw [hWd]; exact hX4
      have hYd : WS Wd Y ly := by rw [hWd]; exact hY4
      have held : Below a.heap.size a Wd := by rw [hWd]; exact bw hel4
      have hszd : w.heap.size ≤ Wd.heap.size := by rw [hWd]; exact hszA
      clear hWd hszA pb4 hs4 ba4 bb4 hT4 hX4 hY4 hel4
      have hwa4 : WS Wd (some ⟨ga, 0, none⟩) ((lay La la.length Sa).take la.length) := by
        have := bad.ws (o := 0) (n := la.length) (by rw [HLA.out]; omega)
        rwa [List.drop_zero] at this
      have hwb4 : WS Wd (some ⟨gb, 0, none⟩) ((lay Lb lb.length Sb).take lb.length) := by
        have := bbd.ws (o := 0) (n := lb.length) (by rw [HLB.out]; omega)
        rwa [List.drop_zero] at this
      have c5 := pbd.cell
      have e0 := hsd.at_ 0
      have e1 := hsd.at_ 1
      simp at e0 e1
      have f0 := hsd.free 0
      have f1 := hsd.free 1
      have lsd := hsd.lt
      have lpd := pbd.lt
      refine wpAnyH_take (i := 0) (v := ?_) rfl (by kernel_rfl) (by kernel_rfl) (by kernel_rfl) (fun _ _ _ h => h) (Or.inl ⟨by rfl, ?_⟩) (by assumption) ?_
      rotate_left
      · (intro w hSw; (try dsimp only at hSw); go_simp; all_goals with_reducible rfl)
      try simp only [Act.put, List.getElem_toArray, List.getElem_cons_zero, List.getElem_cons_succ, List.setIfInBounds_toArray, List.set_cons_zero, List.set_cons_succ]
      refine wpAnyH_take (i := 2) (v := ?_) rfl (by kernel_rfl) (by kernel_rfl) (by kernel_rfl) (fun _ _ _ h => h) (Or.inl ⟨by rfl, ?_⟩) (by assumption) ?_
      rotate_left
      · (intro w hSw; (try dsimp only at hSw); go_simp; all_goals with_reducible rfl)
      try simp only [Act.put, List.getElem_toArray, List.getElem_cons_zero, List.getElem_cons_succ, List.setIfInBounds_toArray, List.set_cons_zero, List.set_cons_succ]
      refine wpAnyH_take (i := 3) (v := ?_) rfl (by kernel_rfl) (by kernel_rfl) (by kernel_rfl) (fun _ _ _ h => h) (Or.inl ⟨by rfl, ?_⟩) (by assumption) ?_
      rotate_left
      · (intro w hSw; (try dsimp only at hSw); go_simp; all_goals with_reducible rfl)
      try simp only [Act.put, List.getElem_toArray, List.getElem_cons_zero, List.getElem_cons_succ, List.setIfInBounds_toArray, List.set_cons_zero, List.set_cons_succ]
      refine wpAnyH_take (i := 4) (v := ?_) rfl (by kernel_rfl) (by kernel_rfl) (by kernel_rfl) (fun _ _ _ h => h) (Or.inl ⟨by rfl, ?_⟩) (by assumption) ?_
      rotate_left
      · (intro w hSw; (try dsimp only at hSw); go_simp; all_goals with_reducible rfl)
      try simp only [Act.put, List.getElem_toArray, List.getElem_cons_zero, List.getElem_cons_succ, List.setIfInBounds_toArray, List.set_cons_zero, List.set_cons_succ]
      refine wpAnyH_take (i := 5) (v := ?_) rfl (by kernel_rfl) (by kernel_rfl) (by kernel_rfl) (fun _ _ _ h => h) (Or.inl ⟨by rfl, ?_⟩) (by assumption) ?_
      rotate_left
      · (intro w hSw; (try dsimp only at hSw); go_simp; all_goals with_reducible rfl)
      try simp only [Act.put, List.getElem_toArray, List.getElem_cons_zero, List.getElem_cons_succ, List.setIfInBounds_toArray, List.set_cons_zero, List.set_cons_succ]
      refine wpAnyH_take (i := 7) (v := ?_) rfl (by kernel_rfl) (by kernel_rfl) (by kernel_rfl) (fun _ _ _ h => h) (Or.inl ⟨by rfl, ?_⟩) (by assumption) ?_
      rotate_left
      · (intro w hSw; (try dsimp only at hSw); go_simp; all_goals with_reducible rfl)
      try simp only [Act.put, List.getElem_toArray, List.getElem_cons_zero, List.getElem_cons_succ, List.setIfInBounds_toArray, List.set_cons_zero, List.set_cons_succ]
      refine wpAnyH_take (i := 8) (v := ?_) rfl (by kernel_rfl) (by kernel_rfl) (by kernel_rfl) (fun _ _ _ h => h) (Or.inl ⟨by rfl, ?_⟩) (by assumption) ?_
      rotate_left
      · (intro w hSw; (try dsimp only at hSw); go_simp; all_goals with_reducible rfl)
      try simp only [Act.put, List.getElem_toArray, List.getElem_cons_zero, List.getElem_cons_succ, List.setIfInBounds_toArray, List.set_cons_zero, List.set_cons_succ]
      refine wpAnyH_take (i := 9) (v := ?_) rfl (by kernel_rfl) (by kernel_rfl) (by kernel_rfl) (fun _ _ _ h => h) (Or.inl ⟨by rfl, ?_⟩) (by assumption) ?_
      rotate_left
      · (intro w hSw; (try dsimp only at hSw); go_simp; all_goals with_reducible rfl)
      try simp only [Act.put, List.getElem_toArray, List.getElem_cons_zero, List.getElem_cons_succ, List.setIfInBounds_toArray, List.set_cons_zero, List.set_cons_succ]
      refine wpAnyH_take (i := 10) (v := ?_) rfl (by kernel_rfl) (by kernel_rfl) (by kernel_rfl) (fun _ _ _ h => h) (Or.inl ⟨by rfl, ?_⟩) (by assumption) ?_
      rotate_left
      · (intro w hSw; (try dsimp only at hSw); go_simp; all_goals with_reducible rfl)
      try simp only [Act.put, List.getElem_toArray, List.getElem_cons_zero, List.getElem_cons_succ, List.setIfInBounds_toArray, List.set_cons_zero, List.set_cons_succ]
      refine wpAnyH_ready (rs := [6]) (by kernel_rfl) (by simp) ?_
      refine AllReadyH.cons rfl (fun K hK => ?_) AllReadyH.nil
      go_simp
      go_at_call 139
      refine (trim_any (some ⟨ga, 0, none⟩) la.length ca ((lay La la.length Sa).take la.length) _ (by rw [List.length_take, HLA.out]; omega) (by omega) h.oa.cap hwa4).mono ?_
      rintro e w5 ⟨⟨k1, hk1, rfl, tk1, zk1⟩, rfl⟩
      have HT1 := Lib.hid (And.intro tk1 zk1)
      clear tk1 zk1
      refine hK.out _ _ ⟨c5, e0, e1⟩ (fun hHeld => ?_)
      clear hK K
      try simp only [Act.put, List.getElem_toArray, List.getElem_cons_zero, List.getElem_cons_succ, List.setIfInBounds_toArray, List.set_cons_zero, List.set_cons_succ]
      refine wpAnyH_ready (rs := [11]) (by kernel_rfl) (by simp) ?_
      refine AllReadyH.cons rfl (fun K hK => ?_) AllReadyH.nil
      go_simp
      go_at_call 139
      refine (trim_any (some ⟨gb, 0, none⟩) lb.length cb ((lay Lb lb.length Sb).take lb.length) _ (by rw [List.length_take, HLB.out]; omega) (by omega) h.ob.cap hwb4).mono ?_
      rintro e w5 ⟨⟨k2, hk2, rfl, tk2, zk2⟩, rfl⟩
      have HT2 := Lib.hid (And.intro tk2 zk2)
      clear tk2 zk2
      refine hK.out _ _ ⟨c5, e0, e1⟩ (fun hHeld => ?_)
      clear hK K
      try simp only [Act.put, List.getElem_toArray, List.getElem_cons_zero, List.getElem_cons_succ, List.setIfInBounds_toArray, List.set_cons_zero, List.set_cons_succ]
      refine wpAnyH_done (by kernel_rfl) ?_ _
      simp only [HTH]
      have hH0 := c5
      refine wpAnyH_take (i := 12) (v := ?_) rfl (by kernel_rfl) (by kernel_rfl) (by kernel_rfl) (fun _ _ _ h => h) (Or.inl ⟨by rfl, ?_⟩) (by assumption) ?_
      rotate_left
      · (intro w hSw; (try dsimp only at hSw); go_simp; all_goals with_reducible rfl)
      try simp only [Act.put, List.getElem_toArray, List.getElem_cons_zero, List.getElem_cons_succ, List.setIfInBounds_toArray, List.set_cons_zero, List.set_cons_succ]
      refine wpAnyH_take (i := 13) (v := ?_) rfl (by kernel_rfl) (by kernel_rfl) (by kernel_rfl) (fun _ _ _ h => h) (Or.inl ⟨by rfl, ?_⟩) (by assumption) ?_
      rotate_left
      · (intro w hSw; (try dsimp only at hSw); go_simp; all_goals with_reducible rfl)
      try simp only [Act.put, List.getElem_toArray, List.getElem_cons_zero, List.getElem_cons_succ, List.setIfInBounds_toArray, List.set_cons_zero, List.set_cons_succ]
      refine wpAnyH_ready (rs := [14]) (by kernel_rfl) (by simp) ?_
      refine AllReadyH.cons rfl (fun K hK => ?_) AllReadyH.nil
      go_simp
      refine hK.out _ _ (pbd.only ((only_refl s Wd).set_ (p := ⟨s, 0, none⟩) (.inl rfl) _) hps).cell (fun hHeld => ?_)
      clear hK K
      try simp only [Act.put, List.getElem_toArray, List.getElem_cons_zero, List.getElem_cons_succ, List.setIfInBounds_toArray, List.set_cons_zero, List.set_cons_succ]
      obtain ⟨Wx, hWx⟩ : ∃ W, W = Wd.setCell ⟨s, 0, none⟩ (.slice (some ⟨ga, 0, none⟩) k1 ca) := ⟨_, rfl⟩
      rw [← hWx] at hHeld ⊢
      have hOx : Only s Wd Wx := by rw [hWx]; exact (only_refl s Wd).set_ (p := ⟨s, 0, none⟩) (.inl rfl) _
      have hsx : Cells Wx s 125 #[.slice (some ⟨ga, 0, none⟩) k1 ca, .slice (some ⟨gb, 0, none⟩) lb.length cb, .slice X lx.length cx, .slice Y ly.length cy, .bool o] := by
        have h := hsd.set_ 0 (.slice (some ⟨ga, 0, none⟩) k1 ca)
        simp only [Array.setIfInBounds, List.size_toArray, List.length_cons, List.length_nil] at h
        rw [hWx]; simpa using h
      have pbx := pbd.only hOx hps
      clear hWx f0 f1 e0 e1
      have f1 := hsx.free 1
      have e1 := hsx.at_ 1
      simp at e1
      have lsx := hsx.lt
      refine wpAnyH_take (i := 15) (v := ?_) rfl (by kernel_rfl) (by kernel_rfl) (by kernel_rfl) (fun _ _ _ h => h) (Or.inl ⟨by rfl, ?_⟩) (by assumption) ?_
      rotate_left
      · (intro w hSw; (try dsimp only at hSw); go_simp; all_goals with_reducible rfl)
      try simp only [Act.put, List.getElem_toArray, List.getElem_cons_zero, List.getElem_cons_succ, List.setIfInBounds_toArray, List.set_cons_zero, List.set_cons_succ]
      refine wpAnyH_take (i := 16) (v := ?_) rfl (by kernel_rfl) (by kernel_rfl) (by kernel_rfl) (fun _ _ _ h => h) (Or.inl ⟨by rfl, ?_⟩) (by assumption) ?_
      rotate_left
      · (intro w hSw; (try dsimp only at hSw); go_simp; all_goals with_reducible rfl)
      try simp only [Act.put, List.getElem_toArray, List.getElem_cons_zero, List.getElem_cons_succ, List.setIfInBounds_toArray, List.set_cons_zero, List.set_cons_succ]
      refine wpAnyH_ready (rs := [17]) (by kernel_rfl) (by simp) ?_
      refine AllReadyH.cons rfl (fun K hK => ?_) AllReadyH.nil
      go_simp
      refine hK.out _ _ (pbx.only ((only_refl s Wx).set_ (p := ⟨s, 1, none⟩) (.inl rfl) _) hps).cell (fun hHeld => ?_)
      clear hK K
      try simp only [Act.put, List.getElem_toArray, List.getElem_cons_zero, List.getElem_cons_succ, List.setIfInBounds_toArray, List.set_cons_zero, List.set_cons_succ]
      refine wpAnyH_done (by kernel_rfl) ?_ _
      obtain ⟨W5, hW5⟩ : ∃ W, W = Wx.setCell ⟨s, 1, none⟩ (.slice (some ⟨gb, 0, none⟩) k2 cb) := ⟨_, rfl⟩
      rw [← hW5]
      have hO5 : Only s Wd W5 := by rw [hW5]; exact hOx.set_ (p := ⟨s, 1, none⟩) (.inl rfl) _
      have hs5 : Cells W5 s 125 #[.slice (some ⟨ga, 0, none⟩) k1 ca, .slice (some ⟨gb, 0, none⟩) k2 cb, .slice X lx.length cx, .slice Y ly.length cy, .bool o] := by
        have h := hsx.set_ 1 (.slice (some ⟨gb, 0, none⟩) k2 cb)
        simp only [Array.setIfInBounds, List.size_toArray, List.length_cons, List.length_nil] at h
        rw [hW5]; simpa using h
      clear hW5
      have pb5 := pbd.only hO5 hps
      have hT5 := hTd.only hO5 (by omega)
      have hX5 := hXd.only hO5 hXs
      have hY5 := hYd.only hO5 hYs
      have ba5 := bad.only hO5 hsa
      have bb5 := bbd.only hO5 hsb
      have hel5 := bo held hO5 h.low
      clear hHeld hH0 pbx hsx f1 e1 lsx lsd lpd pbd hsd bad bbd hTd hXd hYd held hwa4 hwb4 c5
      have l5' := pb5.lt
      have l6' := hT5.lt
      have l7' := hs5.lt
      have c5 := pb5.cell
      have e2 := hs5.at_ 2
      have e3 := hs5.at_ 3
      have t0 := hT5.at_ 0
      have t1 := hT5.at_ 1
      have t2 := hT5.at_ 2
      have t3 := hT5.at_ 3
      simp at e2 e3 t0 t1 t2 t3
      go_upto_region 6 with fail
      refine wp_region_cutH 28 1 (fun W => W.cell? ⟨w.heap.size, 0, none⟩ = some (.pointer (some ⟨s, 0, none⟩))) (fun W => W.cell? ⟨w.heap.size, 0, none⟩ = some (.pointer (some ⟨s, 0, none⟩)) ∧ W.cell? ⟨s, 2, none⟩ = some (.slice X lx.length cx) ∧ W.cell? ⟨s, 3, none⟩ = some (.slice Y ly.length cy) ∧ W.cell? ⟨w.heap.size + 1, 0, none⟩ = some (.int .u64 (p : Int)) ∧ W.cell? ⟨w.heap.size + 1, 1, none⟩ = some (.int .u64 (q : Int)) ∧ W.cell? ⟨w.heap.size + 1, 2, none⟩ = some (.int .u64 (u : Int)) ∧ W.cell? ⟨w.heap.size + 1, 3, none⟩ = some (.int .u64 (v : Int))) (by kernel_rfl) (by decide) (fun _ h => h.1) (by kernel_rfl) (by kernel_rfl) rfl (by kernel_rfl) (by kernel_rfl) (by kernel_rfl) (fun _ _ _ h => h) (v := .pointer (some ⟨s, 0, none⟩)) (.inl ⟨by rfl, fun W hSw => by (try dsimp only at hSw); go_simp⟩) (facts6 pb5 hs5 hT5) (fun hHeld => ?_)
      simp only [List.take_succ_cons, List.take_zero, List.drop_succ_cons, List.drop_zero, Nat.reduceSub, Act.put, List.setIfInBounds_toArray, List.set_cons_zero, List.set_cons_succ]
      refine wpAnyH_take (i := 0) (v := ?_) rfl (by kernel_rfl) (by kernel_rfl) (by kernel_rfl) (fun _ _ _ h => h) (Or.inl ⟨by rfl, ?_⟩) (by assumption) ?_
      rotate_left
      · (intro w hSw; (try dsimp only at hSw); go_simp; all_goals with_reducible rfl)
      try simp only [Act.put, List.getElem_toArray, List.getElem_cons_zero, List.getElem_cons_succ, List.setIfInBounds_toArray, List.set_cons_zero, List.set_cons_succ]
      refine wpAnyH_take (i := 2) (v := ?_) rfl (by kernel_rfl) (by kernel_rfl) (by kernel_rfl) (fun _ _ _ h => h) (Or.inl ⟨by rfl, ?_⟩) (by assumption) ?_
      rotate_left
      · (intro w hSw; (try dsimp only at hSw); go_simp; all_goals with_reducible rfl)
      try simp only [Act.put, List.getElem_toArray, List.getElem_cons_zero, List.getElem_cons_succ, List.setIfInBounds_toArray, List.set_cons_zero, List.set_cons_succ]
      refine wpAnyH_take (i := 3) (v := ?_) rfl (by kernel_rfl) (by kernel_rfl) (by kernel_rfl) (fun _ _ _ h => h) (Or.inl ⟨by rfl, ?_⟩) (by assumption) ?_
      rotate_left
      · (intro w hSw; (try dsimp only at hSw); go_simp; all_goals with_reducible rfl)
      try simp only [Act.put, List.getElem_toArray, List.getElem_cons_zero, List.getElem_cons_succ, List.setIfInBounds_toArray, List.set_cons_zero, List.set_cons_succ]
      refine wpAnyH_take (i := 4) (v := ?_) rfl (by kernel_rfl) (by kernel_rfl) (by kernel_rfl) (fun _ _ _ h => h) (Or.inl ⟨by rfl, ?_⟩) (by assumption) ?_
      rotate_left
      · (intro w hSw; (try dsimp only at hSw); go_simp; all_goals with_reducible rfl)
      try simp only [Act.put, List.getElem_toArray, List.getElem_cons_zero, List.getElem_cons_succ, List.setIfInBounds_toArray, List.set_cons_zero, List.set_cons_succ]
      refine wpAnyH_take (i := 5) (v := ?_) rfl (by kernel_rfl) (by kernel_rfl) (by kernel_rfl) (fun _ _ _ h => h) (Or.inl ⟨by rfl, ?_⟩) (by assumption) ?_
      rotate_left
      · (intro w hSw; (try dsimp only at hSw); go_simp; all_goals with_reducible rfl)
      try simp only [Act.put, List.getElem_toArray, List.getElem_cons_zero, List.getElem_cons_succ, List.setIfInBounds_toArray, List.set_cons_zero, List.set_cons_succ]
      refine wpAnyH_take (i := 6) (v := ?_) rfl (by kernel_rfl) (by kernel_rfl) (by kernel_rfl) (fun _ _ _ h => h) (Or.inl ⟨by rfl, ?_⟩) (by assumption) ?_
      rotate_left
      · (intro w hSw; (try dsimp only at hSw); go_simp; all_goals with_reducible rfl)
      try simp only [Act.put, List.getElem_toArray, List.getElem_cons_zero, List.getElem_cons_succ, List.setIfInBounds_toArray, List.set_cons_zero, List.set_cons_succ]
      refine wpAnyH_take (i := 7) (v := ?_) rfl (by kernel_rfl) (by kernel_rfl) (by kernel_rfl) (fun _ _ _ h => h) (Or.inl ⟨by rfl, ?_⟩) (by assumption) ?_
      rotate_left
      · (intro w hSw; (try dsimp only at hSw); go_simp; all_goals with_reducible rfl)
      try simp only [Act.put, List.getElem_toArray, List.getElem_cons_zero, List.getElem_cons_succ, List.setIfInBounds_toArray, List.set_cons_zero, List.set_cons_succ]
      refine wpAnyH_take (i := 8) (v := ?_) rfl (by kernel_rfl) (by kernel_rfl) (by kernel_rfl) (fun _ _ _ h => h) (Or.inl ⟨by rfl, ?_⟩) (by assumption) ?_
      rotate_left
      · (intro w hSw; (try dsimp only at hSw); go_simp; all_goals with_reducible rfl)
      try simp only [Act.put, List.getElem_toArray, List.getElem_cons_zero, List.getElem_cons_succ, List.setIfInBounds_toArray, List.set_cons_zero, List.set_cons_succ]
      refine wpAnyH_take (i := 9) (v := ?_) rfl (by kernel_rfl) (by kernel_rfl) (by kernel_rfl) (fun _ _ _ h => h) (Or.inl ⟨by rfl, ?_⟩) (by assumption) ?_
      rotate_left
      · (intro w hSw; (try dsimp only at hSw); go_simp; all_goals with_reducible rfl)
      try simp only [Act.put, List.getElem_toArray, List.getElem_cons_zero, List.getElem_cons_succ, List.setIfInBounds_toArray, List.set_cons_zero, List.set_cons_succ]
      refine wpAnyH_take (i := 10) (v := ?_) rfl (by kernel_rfl) (by kernel_rfl) (by kernel_rfl) (fun _ _ _ h => h) (Or.inl ⟨by rfl, ?_⟩) (by assumption) ?_
      rotate_left
      · (intro w hSw; (try dsimp only at hSw); go_simp; all_goals with_reducible rfl)
      try simp only [Act.put, List.getElem_toArray, List.getElem_cons_zero, List.getElem_cons_succ, List.setIfInBounds_toArray, List.set_cons_zero, List.set_cons_succ]
      refine wpAnyH_take (i := 11) (v := ?_) rfl (by kernel_rfl) (by kernel_rfl) (by kernel_rfl) (fun _ _ _ h => h) (Or.inl ⟨by rfl, ?_⟩) (by assumption) ?_
      rotate_left
      · (intro w hSw; (try dsimp only at hSw); go_simp; all_goals with_reducible rfl)
      try simp only [Act.put, List.getElem_toArray, List.getElem_cons_zero, List.getElem_cons_succ, List.setIfInBounds_toArray, List.set_cons_zero, List.set_cons_succ]
      refine wpAnyH_take (i := 12) (v := ?_) rfl (by kernel_rfl) (by kernel_rfl) (by kernel_rfl) (fun _ _ _ h => h) (Or.inl ⟨by rfl, ?_⟩) (by assumption) ?_
      rotate_left
      · (intro w hSw; (try dsimp only at hSw); go_simp; all_goals with_reducible rfl)
      try simp only [Act.put, List.getElem_toArray, List.getElem_cons_zero, List.getElem_cons_succ, List.setIfInBounds_toArray, List.set_cons_zero, List.set_cons_succ]
      refine wpAnyH_take (i := 13) (v := ?_) rfl (by kernel_rfl) (by kernel_rfl) (by kernel_rfl) (fun _ _ _ h => h) (Or.inl ⟨by rfl, ?_⟩) (by assumption) ?_
      rotate_left
      · (intro w hSw; (try dsimp only at hSw); go_simp; all_goals with_reducible rfl)
      try simp only [Act.put, List.getElem_toArray, List.getElem_cons_zero, List.getElem_cons_succ, List.setIfInBounds_toArray, List.set_cons_zero, List.set_cons_succ]
      refine wpAnyH_take (i := 15) (v := ?_) rfl (by kernel_rfl) (by kernel_rfl) (by kernel_rfl) (fun _ _ _ h => h) (Or.inl ⟨by rfl, ?_⟩) (by assumption) ?_
      rotate_left
      · (intro w hSw; (try dsimp only at hSw); go_simp; all_goals with_reducible rfl)
      try simp only [Act.put, List.getElem_toArray, List.getElem_cons_zero, List.getElem_cons_succ, List.setIfInBounds_toArray, List.set_cons_zero, List.set_cons_succ]
      refine wpAnyH_take (i := 16) (v := ?_) rfl (by kernel_rfl) (by kernel_rfl) (by kernel_rfl) (fun _ _ _ h => h) (Or.inl ⟨by rfl, ?_⟩) (by assumption) ?_
      rotate_left
      · (intro w hSw; (try dsimp only at hSw); go_simp; all_goals with_reducible rfl)
      try simp only [Act.put, List.getElem_toArray, List.getElem_cons_zero, List.getElem_cons_succ, List.setIfInBounds_toArray, List.set_cons_zero, List.set_cons_succ]
      refine wpAnyH_take (i := 17) (v := ?_) rfl (by kernel_rfl) (by kernel_rfl) (by kernel_rfl) (fun _ _ _ h => h) (Or.inl ⟨by rfl, ?_⟩) (by assumption) ?_
      rotate_left
      · (intro w hSw; (try dsimp only at hSw); go_simp; all_goals with_reducible rfl)
      try simp only [Act.put, List.getElem_toArray, List.getElem_cons_zero, List.getElem_cons_succ, List.setIfInBounds_toArray, List.set_cons_zero, List.set_cons_succ]
      refine wpAnyH_take (i := 18) (v := ?_) rfl (by kernel_rfl) (by kernel_rfl) (by kernel_rfl) (fun _ _ _ h => h) (Or.inl ⟨by rfl, ?_⟩) (by assumption) ?_
      rotate_left
      · (intro w hSw; (try dsimp only at hSw); go_simp; all_goals with_reducible rfl)
      try simp only [Act.put, List.getElem_toArray, List.getElem_cons_zero, List.getElem_cons_succ, List.setIfInBounds_toArray, List.set_cons_zero, List.set_cons_succ]
      refine wpAnyH_take (i := 19) (v := ?_) rfl (by kernel_rfl) (by kernel_rfl) (by kernel_rfl) (fun _ _ _ h => h) (Or.inl ⟨by rfl, ?_⟩) (by assumption) ?_
      rotate_left
      · (intro w hSw; (try dsimp only at hSw); go_simp; all_goals with_reducible rfl)
      try simp only [Act.put, List.getElem_toArray, List.getElem_cons_zero, List.getElem_cons_succ, List.setIfInBounds_toArray, List.set_cons_zero, List.set_cons_succ]
      refine wpAnyH_take (i := 20) (v := ?_) rfl (by kernel_rfl) (by kernel_rfl) (by kernel_rfl) (fun _ _ _ h => h) (Or.inl ⟨by rfl, ?_⟩) (by assumption) ?_
      rotate_left
      · (intro w hSw; (try dsimp only at hSw); go_simp; all_goals with_reducible rfl)
      try simp only [Act.put, List.getElem_toArray, List.getElem_cons_zero, List.getElem_cons_succ, List.setIfInBounds_toArray, List.set_cons_zero, List.set_cons_succ]
      refine wpAnyH_take (i := 21) (v := ?_) rfl (by kernel_rfl) (by kernel_rfl) (by kernel_rfl) (fun _ _ _ h => h) (Or.inl ⟨by rfl, ?_⟩) (by assumption) ?_
      rotate_left
      · (intro w hSw; (try dsimp only at hSw); go_simp; all_goals with_reducible rfl)
      try simp only [Act.put, List.getElem_toArray, List.getElem_cons_zero, List.getElem_cons_succ, List.setIfInBounds_toArray, List.set_cons_zero, List.set_cons_succ]
      refine wpAnyH_take (i := 22) (v := ?_) rfl (by kernel_rfl) (by kernel_rfl) (by kernel_rfl) (fun _ _ _ h => h) (Or.inl ⟨by rfl, ?_⟩) (by assumption) ?_
      rotate_left
      · (intro w hSw; (try dsimp only at hSw); go_simp; all_goals with_reducible rfl)
      try simp only [Act.put, List.getElem_toArray, List.getElem_cons_zero, List.getElem_cons_succ, List.setIfInBounds_toArray, List.set_cons_zero, List.set_cons_succ]
      refine wpAnyH_take (i := 23) (v := ?_) rfl (by kernel_rfl) (by kernel_rfl) (by kernel_rfl) (fun _ _ _ h => h) (Or.inl ⟨by rfl, ?_⟩) (by assumption) ?_
      rotate_left
      · (intro w hSw; (try dsimp only at hSw); go_simp; all_goals with_reducible rfl)
      try simp only [Act.put, List.getElem_toArray, List.getElem_cons_zero, List.getElem_cons_succ, List.setIfInBounds_toArray, List.set_cons_zero, List.set_cons_succ]
      refine wpAnyH_take (i := 24) (v := ?_) rfl (by kernel_rfl) (by kernel_rfl) (by kernel_rfl) (fun _ _ _ h => h) (Or.inl ⟨by rfl, ?_⟩) (by assumption) ?_
      rotate_left
      · (intro w hSw; (try dsimp only at hSw); go_simp; all_goals with_reducible rfl)
      try simp only [Act.put, List.getElem_toArray, List.getElem_cons_zero, List.getElem_cons_succ, List.setIfInBounds_toArray, List.set_cons_zero, List.set_cons_succ]
      refine wpAnyH_take (i := 25) (v := ?_) rfl (by kernel_rfl) (by kernel_rfl) (by kernel_rfl) (fun _ _ _ h => h) (Or.inl ⟨by rfl, ?_⟩) (by assumption) ?_
      rotate_left
      · (intro w hSw; (try dsimp only at hSw); go_simp; all_goals with_reducible rfl)
      try simp only [Act.put, List.getElem_toArray, List.getElem_cons_zero, List.getElem_cons_succ, List.setIfInBounds_toArray, List.set_cons_zero, List.set_cons_succ]
      refine wpAnyH_take (i := 26) (v := ?_) rfl (by kernel_rfl) (by kernel_rfl) (by kernel_rfl) (fun _ _ _ h => h) (Or.inl ⟨by rfl, ?_⟩) (by assumption) ?_
      rotate_left
      · (intro w hSw; (try dsimp only at hSw); go_simp; all_goals with_reducible rfl)
      try simp only [Act.put, List.getElem_toArray, List.getElem_cons_zero, List.getElem_cons_succ, List.setIfInBounds_toArray, List.set_cons_zero, List.set_cons_succ]
      refine wpAnyH_ready (rs := [14]) (by kernel_rfl) (by simp) ?_
      refine AllReadyH.cons rfl (fun K hK => ?_) AllReadyH.nil
      go_simp
      go_at_call 197
      refine (mix_any W5 _ Y X cy cx lx ly p q hp hq hxy (by omega) (hX5.below (bd (b0 _) _)) (hY5.below (bd (b0 _) _)) (bd (b0 _) _)).mono ?_
      rintro e w6 ⟨A6, c6, l6, rfl, hc6, ho6, ht6, hv6, hb6⟩
      have HV6 := Lib.hid hv6
      clear hv6
      have hs6 := hs5.below hb6
      have pb6 := pb5.below hb6
      have hT6 := hT5.below hb6
      have HF6 := Lib.hid (facts6 pb6 hs6 hT6)
      refine hK.out _ _ HF6.out (fun hHeld => ?_)
      clear hK K
      try simp only [Act.put, List.getElem_toArray, List.getElem_cons_zero, List.getElem_cons_succ, List.setIfInBounds_toArray, List.set_cons_zero, List.set_cons_succ]
      refine wpAnyH_ready (rs := [27]) (by kernel_rfl) (by simp) ?_
      refine AllReadyH.cons rfl (fun K hK => ?_) AllReadyH.nil
      go_simp
      go_at_call 197
      refine (mix_any w6 _ Y X cy cx lx ly u v hu hv hxy (by omega) (hX5.below hb6) (hY5.below hb6) (b0 _)).mono ?_
      rintro e w7 ⟨A7, c7, l7, rfl, hc7, ho7, ht7, hv7, hb7⟩
      have HV7 := Lib.hid hv7
      clear hv7
      have hs7 := hs6.below hb7
      have pb7 := pb6.below hb7
      have hT7 := hT6.below hb7
      have HF7 := Lib.hid (facts6 pb7 hs7 hT7)
      refine hK.out _ _ HF7.out (fun hHeld => ?_)
      clear hK K
      try simp only [Act.put, List.getElem_toArray, List.getElem_cons_zero, List.getElem_cons_succ, List.setIfInBounds_toArray, List.set_cons_zero, List.set_cons_succ]
      have f2 := hs7.free 2
      have f3 := hs7.free 3
      have ls7 := hs7.lt
      have lp7 := pb7.lt
      have c5 := pb7.cell
      have e2 := hs7.at_ 2
      have e3 := hs7.at_ 3
      simp at e2 e3
      refine wpAnyH_done (by kernel_rfl) ?_ _
      simp only [HTH]
      have hH0 := c5
      refine wpAnyH_take (i := 28) (v := ?_) rfl (by kernel_rfl) (by kernel_rfl) (by kernel_rfl) (fun _ _ _ h => h) (Or.inl ⟨by rfl, ?_⟩) (by assumption) ?_
      rotate_left
      · (intro w hSw; (try dsimp only at hSw); go_simp; all_goals with_reducible rfl)
      try simp only [Act.put, List.getElem_toArray, List.getElem_cons_zero, List.getElem_cons_succ, List.setIfInBounds_toArray, List.set_cons_zero, List.set_cons_succ]
      refine wpAnyH_take (i := 29) (v := ?_) rfl (by kernel_rfl) (by kernel_rfl) (by kernel_rfl) (fun _ _ _ h => h) (Or.inl ⟨by rfl, ?_⟩) (by assumption) ?_
      rotate_left
      · (intro w hSw; (try dsimp only at hSw); go_simp; all_goals with_reducible rfl)
      try simp only [Act.put, List.getElem_toArray, List.getElem_cons_zero, List.getElem_cons_succ, List.setIfInBounds_toArray, List.set_cons_zero, List.set_cons_succ]
      refine wpAnyH_ready (rs := [30]) (by kernel_rfl) (by simp) ?_
      refine AllReadyH.cons rfl (fun K hK => ?_) AllReadyH.nil
      go_simp
      refine hK.out _ _ (pb7.only ((only_refl s w7).set_ (p := ⟨s, 2, none⟩) (.inl rfl) _) hps).cell (fun hHeld => ?_)
      clear hK K
      try simp only [Act.put, List.getElem_toArray, List.getElem_cons_zero, List.getElem_cons_succ, List.setIfInBounds_toArray, List.set_cons_zero, List.set_cons_succ]
      obtain ⟨Wy, hWy⟩ : ∃ W, W = w7.setCell ⟨s, 2, none⟩ (.slice A6 l6.length c6) := ⟨_, rfl⟩
      rw [← hWy] at hHeld ⊢
      have hOy : Only s w7 Wy := by rw [hWy]; exact (only_refl s w7).set_ (p := ⟨s, 2, none⟩) (.inl rfl) _
      have hsy : Cells Wy s 125 #[.slice (some ⟨ga, 0, none⟩) k1 ca, .slice (some ⟨gb, 0, none⟩) k2 cb, .slice A6 l6.length c6, .slice Y ly.length cy, .bool o] := by
        have h := hs7.set_ 2 (.slice A6 l6.length c6)
        simp only [Array.setIfInBounds, List.size_toArray, List.length_cons, List.length_nil] at h
        rw [hWy]; simpa using h
      have pby := pb7.only hOy hps
      clear hWy f2 f3 e2 e3
      have f3 := hsy.free 3
      have e3 := hsy.at_ 3
      simp at e3
      have lsy := hsy.lt
      refine wpAnyH_take (i := 31) (v := ?_) rfl (by kernel_rfl) (by kernel_rfl) (by kernel_rfl) (fun _ _ _ h => h) (Or.inl ⟨by rfl, ?_⟩) (by assumption) ?_
      rotate_left
      · (intro w hSw; (try dsimp only at hSw); go_simp; all_goals with_reducible rfl)
      try simp only [Act.put, List.getElem_toArray, List.getElem_cons_zero, List.getElem_cons_succ, List.setIfInBounds_toArray, List.set_cons_zero, List.set_cons_succ]
      refine wpAnyH_take (i := 32) (v := ?_) rfl (by kernel_rfl) (by kernel_rfl) (by kernel_rfl) (fun _ _ _ h => h) (Or.inl ⟨by rfl, ?_⟩) (by assumption) ?_
      rotate_left
      · (intro w hSw; (try dsimp only at hSw); go_simp; all_goals with_reducible rfl)
      try simp only [Act.put, List.getElem_toArray, List.getElem_cons_zero, List.getElem_cons_succ, List.setIfInBounds_toArray, List.set_cons_zero, List.set_cons_succ]
      refine wpAnyH_ready (rs := [33]) (by kernel_rfl) (by simp) ?_
      refine AllReadyH.cons rfl (fun K hK => ?_) AllReadyH.nil
      go_simp
      refine hK.out _ _ (pby.only ((only_refl s Wy).set_ (p := ⟨s, 3, none⟩) (.inl rfl) _) hps).cell (fun hHeld => ?_)
      clear hK K
      try simp only [Act.put, List.getElem_toArray, List.getElem_cons_zero, List.getElem_cons_succ, List.setIfInBounds_toArray, List.set_cons_zero, List.set_cons_succ]
      refine wpAnyH_done (by kernel_rfl) ?_ _
      obtain ⟨W8, hW8⟩ : ∃ W, W = Wy.setCell ⟨s, 3, none⟩ (.slice A7 l7.length c7) := ⟨_, rfl⟩
      rw [← hW8]
      have hO8 : Only s w7 W8 := by rw [hW8]; exact hOy.set_ (p := ⟨s, 3, none⟩) (.inl rfl) _
      have hs8 : Cells W8 s 125 #[.slice (some ⟨ga, 0, none⟩) k1 ca, .slice (some ⟨gb, 0, none⟩) k2 cb, .slice A6 l6.length c6, .slice A7 l7.length c7, .bool o] := by
        have h := hsy.set_ 3 (.slice A7 l7.length c7)
        simp only [Array.setIfInBounds, List.size_toArray, List.length_cons, List.length_nil] at h
        rw [hW8]; simpa using h
      clear hW8
      have pb8 := pb7.only hO8 hps
      clear hHeld hH0 c5 t0 t1 t2 t3 pby hsy f3 e3 lsy lp7 ls7
      have c5 := pb8.cell
      have e4 := hs8.at_ 4
      have f4 := hs8.free 4
      have l8 := hs8.lt
      have l9 := pb8.lt
      simp at e4
      have HE := Lib.hid (show ETurnP a w s (some ⟨ga, 0, none⟩) (some ⟨gb, 0, none⟩) ca cb A1 B1 (val lx * p + val ly * q) (val lx * u + val ly * v) (o != odd) (.returned (.tuple #[])) ((W8.setCell ⟨s, 4, none⟩ (.bool (!o == odd))).drew) from by
        have hO9 : Only s w7 (W8.setCell ⟨s, 4, none⟩ (.bool (!o == odd))).drew := by
          have k := hO8.set_ (p := ⟨s, 4, none⟩) (.inl rfl) (.bool (!o == odd))
          exact ⟨k.os, k.tape, k.output, k.size, k.block⟩
        have hs9 : Cells (W8.setCell ⟨s, 4, none⟩ (.bool (!o == odd))).drew s 125 #[.slice (some ⟨ga, 0, none⟩) k1 ca, .slice (some ⟨gb, 0, none⟩) k2 cb, .slice A6 l6.length c6, .slice A7 l7.length c7, .bool (o != odd)] := by
          have h := hs8.set_ 4 (.bool (!o == odd))
          simp only [Array.setIfInBounds, List.size_toArray, List.length_cons, List.length_nil] at h
          rw [neq_odd]
          have h1 : Cells (W8.setCell ⟨s, 4, none⟩ (.bool (!o == odd))) s 125 #[.slice (some ⟨ga, 0, none⟩) k1 ca, .slice (some ⟨gb, 0, none⟩) k2 cb, .slice A6 l6.length c6, .slice A7 l7.length c7, .bool (!o == odd)] := by simpa using h
          exact h1
        have h67 := bt hb6 hb7
        have ba9 := (ba5.below h67).only hO9 hsa
        have bb9 := (bb5.below h67).only hO9 hsb
        have hsz5 := Nat.le_trans hszd hO5.size
        obtain ⟨t1a, t1b⟩ := HT1.out
        obtain ⟨t2a, t2b⟩ := HT2.out
        obtain ⟨la', rfl, oA, tA, vA⟩ := own_trim hga ba9 (by rw [HLA.out]; exact hna) hk1 t1a t1b
        obtain ⟨lb', rfl, oB, tB, vB⟩ := own_trim hgb bb9 (by rw [HLB.out]; exact hnb) hk2 t2a t2b
        exact ⟨la', lb', A6, c6, l6, A7, c7, l7, rfl, hs9, oA, Nat.le_trans hk1 h.oa.cap, tA, vA.trans HVA.out, oB, Nat.le_trans hk2 h.ob.cap, tB, vB.trans HVB.out,
          hc6, ((ho6.mono hsz5).below hb7).only hO9 (ho6.off_ l7'), ht6, HV6.out, hc7, (ho7.mono (Nat.le_trans hsz5 hb6.size)).only hO9 (ho7.off_ hs6.lt), ht7, HV7.out, bo (bt hel5 h67) hO9 h.low⟩)
      clear hb6 hb7 hs6 hs7 pb6 pb7 hT6 hT7 hO8 hO5 hX5 hY5 ba5 bb5 hel5 hs5 hT5 pb5
      go_upto_region 7 with fail
      go_region_law fail
      all_goals go_wp2_with fail
      all_goals go_end0
      all_goals exact HE.out
end Go.Proofs.YtgljdfblgpdaaaaGreatDoor
