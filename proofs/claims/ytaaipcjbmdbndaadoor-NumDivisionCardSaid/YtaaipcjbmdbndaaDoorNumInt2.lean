/- Integers: Sign, Cmp, Of, Neg, Abs. -/
import Derived.Test.YtaaipcjbmdbndaaDoorNumInt
namespace Go.Proofs.YtaaipcjbmdbndaaDoor
open Go.RowKit

def sgn (p neg : Bool) (l : List Nat) : Int := if !p || l.length = 0 then 0 else if neg then -1 else 1

set_option maxRecDepth 100000 in
set_option maxHeartbeats 400000 in
theorem Sign_any (neg : Bool) (A : Option Addr) (n c : Nat) (l : List Nat) (p : Bool) (w : World) (hn : l.length = n) (hm : n ≤ 4000000) (hl : WS w A l) (hp : isB neg l = p) :
    Calls Tryd.prog 23 #[.agg #[.bool neg, .slice A n c]] w fun e w' => e = .returned (.int .i64 (sgn p neg l)) ∧ Below w.heap.size w w' := by
  subst hn
  have HP := Lib.hid hp
  clear hp
  cases p
  · go_enter Tryd.func23, Tryd.ntmps23
    go_wp2_with fail
    refine (Is_any neg A _ c l _ rfl hm (hl.below (ba (b0 _) _))).mono ?_
    rintro e w1 ⟨rfl, hb⟩
    rw [HP.out]
    obtain ⟨hc1, hf1⟩ := bcell hb
    have hz1 := hb.size
    go_wp2_with fail
    go_ret
    exact ⟨ret_int (by simp [sgn]), bt (ba (b0 _) _) hb⟩
  · by_cases h0 : l.length = 0
    · have e : sgn true neg l = 0 := by simp [sgn, h0]
      rw [e]
      clear e
      go_enter Tryd.func23, Tryd.ntmps23
      go_wp2_with fail
      refine (Is_any neg A _ c l _ h0 (by omega) (hl.below (ba (b0 _) _))).mono ?_
      rintro e w1 ⟨rfl, hb⟩
      rw [HP.out]
      obtain ⟨hc1, hf1⟩ := bcell hb
      have hz1 := hb.size
      go_wp2_with fail
      go_ret
      exact ⟨ret_int rfl, bt (ba (b0 _) _) hb⟩
    · have hz : ((l.length : Int) == 0) = false := beq_eq_false_iff_ne.2 (by omega)
      cases neg
      · have e : sgn true false l = 1 := by simp [sgn, h0]
        rw [e]
        clear e h0
        go_enter Tryd.func23, Tryd.ntmps23
        go_wp2_with fail
        refine (Is_any false A _ c l _ rfl hm (hl.below (ba (b0 _) _))).mono ?_
        rintro e w1 ⟨rfl, hb⟩
        rw [HP.out]
        obtain ⟨hc1, hf1⟩ := bcell hb
        have hz1 := hb.size
        go_wp2_with fail
        go_ret
        exact ⟨ret_int rfl, bt (ba (b0 _) _) hb⟩
      · have e : sgn true true l = -1 := by simp [sgn, h0]
        rw [e]
        clear e h0
        go_enter Tryd.func23, Tryd.ntmps23
        go_wp2_with fail
        refine (Is_any true A _ c l _ rfl hm (hl.below (ba (b0 _) _))).mono ?_
        rintro e w1 ⟨rfl, hb⟩
        rw [HP.out]
        obtain ⟨hc1, hf1⟩ := bcell hb
        have hz1 := hb.size
        go_wp2_with fail
        go_ret
        exact ⟨ret_int rfl, bt (ba (b0 _) _) hb⟩

def cmpI (x y : Int) : Int := if x < y then -1 else if x = y then 0 else 1
/-- What 'Cmp' returns of canonical integers, by signs and absolute values. -/
def cmpS (na nb : Bool) (l k : List Nat) : Int := if na then (if nb then cmpN (val k) (val l) else -1) else if nb then 1 else cmpN (val l) (val k)
theorem cmpS_eq {na nb : Bool} {l k : List Nat} (ha : isB na l = true) (hb : isB nb k = true) : cmpS na nb l k = cmpI (zI na l) (zI nb k) := by
  have pa : na = true → 0 < val l := fun h => by
    subst h
    rcases Nat.eq_zero_or_pos l.length with h0 | h0
    · have := isB_nil ha h0; cases this
    · exact val_pos (isB_top ha) h0
  have pb : nb = true → 0 < val k := fun h => by
    subst h
    rcases Nat.eq_zero_or_pos k.length with h0 | h0
    · have := isB_nil hb h0; cases this
    · exact val_pos (isB_top hb) h0
  cases na <;> cases nb <;> simp only [cmpS, cmpI, cmpN, zI] <;> simp at pa pb ⊢
  · repeat' split
    all_goals first | rfl | omega
  · rw [if_neg (by omega), if_neg (by omega)]
  · omega
  · repeat' split
    all_goals first | rfl | omega

set_option maxRecDepth 100000 in
set_option maxHeartbeats 400000 in
theorem Cmp_any (na nb : Bool) (A B : Option Addr) (n c m d : Nat) (l k : List Nat) (p q : Bool) (w : World) (hn : l.length = n) (hm : k.length = m) (hnm : n ≤ 1000000) (hmm : m ≤ 1000000) (hl : WS w A l) (hk : WS w B k) (hp : isB na l = p) (hq : isB nb k = q) :
    Calls Tryd.prog 22 #[.agg #[.bool na, .slice A n c], .agg #[.bool nb, .slice B m d]] w fun e w' => e = .returned (.int .i64 (if p && q then cmpI (zI na l) (zI nb k) else 0)) ∧ Below w.heap.size w w' := by
  subst hn hm
  have HP := Lib.hid hp
  have HQ := Lib.hid hq
  clear hp hq
  by_cases hpq : (p && q) = true
  · obtain ⟨rfl, rfl⟩ : p = true ∧ q = true := by simpa using hpq
    rw [if_pos (by rfl), ← cmpS_eq HP.out HQ.out]
    clear hpq
    cases na <;> cases nb
    · show Calls _ _ _ _ fun e w' => e = .returned (.int .i64 (cmpN (val l) (val k))) ∧ _
      go_enter Tryd.func22, Tryd.ntmps22
      go_wp2_with fail
      refine (both_any false false A B _ c _ d l k true true _ rfl rfl (by omega) (by omega) (hl.below (ba (ba (b0 _) _) _)) (hk.below (ba (ba (b0 _) _) _)) HP.out HQ.out).mono ?_
      rintro e w1 ⟨rfl, hb⟩
      obtain ⟨hc1, hf1⟩ := bcell hb
      have hz1 := hb.size
      go_wp2_with fail
      refine (compare_any A B _ c _ d l k _ rfl rfl (by omega) (by omega) (isB_top HP.out) (isB_top HQ.out) (hl.below (bt (ba (ba (b0 _) _) _) hb)) (hk.below (bt (ba (ba (b0 _) _) _) hb))).mono ?_
      rintro e w2 ⟨rfl, hb2⟩
      go_wp2_with fail
      go_ret
      exact ⟨rfl, bt (bt (ba (ba (b0 _) _) _) hb) hb2⟩
    · show Calls _ _ _ _ fun e w' => e = .returned (.int .i64 1) ∧ _
      go_enter Tryd.func22, Tryd.ntmps22
      go_wp2_with fail
      refine (both_any false true A B _ c _ d l k true true _ rfl rfl (by omega) (by omega) (hl.below (ba (ba (b0 _) _) _)) (hk.below (ba (ba (b0 _) _) _)) HP.out HQ.out).mono ?_
      rintro e w1 ⟨rfl, hb⟩
      obtain ⟨hc1, hf1⟩ := bcell hb
      have hz1 := hb.size
      go_wp2_with fail
      go_ret
      exact ⟨rfl, bt (ba (ba (b0 _) _) _) hb⟩
    · show Calls _ _ _ _ fun e w' => e = .returned (.int .i64 (-1)) ∧ _
      go_enter Tryd.func22, Tryd.ntmps22
      go_wp2_with fail
      refine (both_any true false A B _ c _ d l k true true _ rfl rfl (by omega) (by omega) (hl.below (ba (ba (b0 _) _) _)) (hk.below (ba (ba (b0 _) _) _)) HP.out HQ.out).mono ?_
      rintro e w1 ⟨rfl, hb⟩
      obtain ⟨hc1, hf1⟩ := bcell hb
      have hz1 := hb.size
      go_wp2_with fail
      go_ret
      exact ⟨rfl, bt (ba (ba (b0 _) _) _) hb⟩
    · show Calls _ _ _ _ fun e w' => e = .returned (.int .i64 (cmpN (val k) (val l))) ∧ _
      go_enter Tryd.func22, Tryd.ntmps22
      go_wp2_with fail
      refine (both_any true true A B _ c _ d l k true true _ rfl rfl (by omega) (by omega) (hl.below (ba (ba (b0 _) _) _)) (hk.below (ba (ba (b0 _) _) _)) HP.out HQ.out).mono ?_
      rintro e w1 ⟨rfl, hb⟩
      obtain ⟨hc1, hf1⟩ := bcell hb
      have hz1 := hb.size
      go_wp2_with fail
      refine (compare_any B A _ d _ c k l _ rfl rfl (by omega) (by omega) (isB_top HQ.out) (isB_top HP.out) (hk.below (bt (ba (ba (b0 _) _) _) hb)) (hl.below (bt (ba (ba (b0 _) _) _) hb))).mono ?_
      rintro e w2 ⟨rfl, hb2⟩
      go_wp2_with fail
      go_ret
      exact ⟨rfl, bt (bt (ba (ba (b0 _) _) _) hb) hb2⟩
  · have hf : (p && q) = false := by simpa using hpq
    rw [if_neg hpq]
    have HF := Lib.hid hf
    clear hpq hf
    go_enter Tryd.func22, Tryd.ntmps22
    go_wp2_with fail
    refine (both_any na nb A B _ c _ d l k p q _ rfl rfl (by omega) (by omega) (hl.below (ba (ba (b0 _) _) _)) (hk.below (ba (ba (b0 _) _) _)) HP.out HQ.out).mono ?_
    rintro e w1 ⟨rfl, hb⟩
    rw [HF.out]
    obtain ⟨hc1, hf1⟩ := bcell hb
    have hz1 := hb.size
    go_wp2_with fail
    go_ret
    exact ⟨rfl, bt (ba (ba (b0 _) _) _) hb⟩
end Go.Proofs.YtaaipcjbmdbndaaDoor
