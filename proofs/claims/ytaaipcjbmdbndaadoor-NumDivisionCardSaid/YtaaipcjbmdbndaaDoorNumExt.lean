/- extend of nothing. -/
import Derived.Test.YtaaipcjbmdbndaaDoorNumRef
import Derived.Test.YtaaipcjbmdbndaaDoorNumDiv
namespace Go.Proofs.YtaaipcjbmdbndaaDoor
open Go.RowKit

set_option maxRecDepth 100000 in
set_option maxHeartbeats 400000 in
theorem extend_nil (w : World) (d c : Nat) (hd : d < 4294967296) (hc0 : 0 < c) (hc : c < 4294967296) :
    Calls Tryd.prog 41 #[.slice none 0 0, .int .u32 (d : Int), .int .u32 (c : Int)] w fun e w' => ∃ A cp, e = .returned (.slice A 1 cp) ∧ 1 ≤ cp ∧ WS w' A [c] ∧ Below w.heap.size w w' := by
  obtain ⟨i0, hi0, hz0, hz1, hz2⟩ := info_v
  have hne : ((c : Int) != 0) = true := by simp; omega
  go_enter Tryd.func41, Tryd.ntmps41
  go_wp2_with fail
  go_loopw [7, 15] (fun cv iv wr => cv = .int .u64 (c : Int) ∧ iv = .int .i64 0 ∧ wr = w) (fun _ _ _ => 0)
  case atStart => exact ⟨rfl, rfl, rfl⟩
  case round =>
    obtain ⟨rfl, rfl, hwr⟩ := hrel
    rw [hwr]
    have hone : Blk (w.alloc (.cells #[.int .u32 (c : Int)] 58)) w.heap.size [c] := Blk.new w [c] (by simpa using hc)
    have hws := hone.ws (o := 0) (n := 1) (by simp)
    rw [List.drop_zero, show List.take 1 [c] = [c] from rfl] at hws
    go_wp2_with (at_builtin; refine wpList_append_lies _ rfl (.tmp 37) (.tmp 40) _ rfl w.heap.size 58 i0 _ 1 4 Tryd.underlying22 hi0 hz0 hz1 hz2 rfl (by omega) (.slice none 0 0) 0 [] rfl ⟨rfl, .inl ⟨rfl, rfl⟩⟩ ⟨w.heap.size, 0, none⟩ 1 1 (([c] : List Nat).map fun (x : Nat) => Value.int .u32 (x : Int)) rfl (by simp) (news_ws (k := 1) (l := [c]) (by simp) hws) one_words (by omega) (by simp only [maxLen]; omega) (by omega) (by simp) _ rfl ?_; intro g cap w3 hown hgrow hat hlt3)
    have hown' : w3.ownsRow w.heap.size 58 1 (.slice (some ⟨g, 0, none⟩) 1 cap) 1 (([c] : List Nat).map fun (x : Nat) => Value.int .u32 (x : Int)) := hown
    obtain ⟨hcap, hws3⟩ := ws_of_row (l := [c]) (n := 1) (by simpa using hc) rfl hown' (by omega) hlt3
    go_ret
    exact ⟨some ⟨g, 0, none⟩, cap, rfl, hcap, hws3, (ba (b0 w) _).grown hgrow (by simp) (by simp [Value.ownBlock])⟩
end Go.Proofs.YtaaipcjbmdbndaaDoor

/- extend, of words in memory of the caller's own. -/
namespace Go.Proofs.YtaaipcjbmdbndaaDoor
open Go.RowKit

/-- Words as values, in a list. -/
def wv (l : List Nat) : List Value := l.map fun (x : Nat) => Value.int .u32 (x : Int)
theorem wv_length (l : List Nat) : (wv l).length = l.length := by simp [wv]
/-- The value v is a slice that owns the words l, in memory from base on. -/
def OwnR (base : Nat) (W : World) (v : Value) (l : List Nat) : Prop := W.ownsRow base 58 1 v l.length (wv l) ∧ (∀ x ∈ l, x < 4294967296)
theorem OwnR.nil (base : Nat) (W : World) : OwnR base W (.slice none 0 0) [] := ⟨World.ownsRow_nil _ _ _ _, by simp⟩
/-- Where it lies. -/
theorem OwnR.some_ {base : Nat} {W : World} {v : Value} {l : List Nat} (h : OwnR base W v l) (h0 : 0 < l.length) : ∃ g cap, v = .slice (some ⟨g, 0, none⟩) l.length cap ∧ base ≤ g ∧ g < W.heap.size ∧ l.length ≤ cap ∧ WS W (some ⟨g, 0, none⟩) l ∧ W.frozen? ⟨g, 0, none⟩ = false ∧ ∀ i, W.frozen? ⟨g, i, none⟩ = false := by
  rcases h.1.2 with ⟨rfl, h1⟩ | ⟨g, cap, cur, rfl, h1, h2, h3, h4, h5, h6⟩
  · omega
  · have hlt : g < W.heap.size := (Array.getElem?_eq_some_iff.1 h2).1
    have hfr : ∀ i, W.frozen? ⟨g, i, none⟩ = false := fun i => by simp [World.frozen?, h2]
    refine ⟨g, cap, rfl, h1, hlt, h3, ⟨h.2, fun _ => ⟨g, 0, rfl, hlt, fun j hj => ?_⟩⟩, hfr 0, hfr⟩
    rw [cell_of_row W g _ _ _ (0, 0) h2, Nat.zero_add]
    have e1 : (cur.toList.take (l.length * 1))[j]? = some (.int .u32 ((gd l j : Nat) : Int)) := by
      rw [h6, wv, List.getElem?_map, List.getElem?_eq_getElem hj, gd_at hj]; rfl
    rw [List.getElem?_take_of_lt (by omega)] at e1
    simpa using e1
theorem OwnR.nil_ {base : Nat} {W : World} {v : Value} {l : List Nat} (h : OwnR base W v l) (h0 : l.length = 0) : (v = .slice none 0 0 ∨ ∃ g cap, v = .slice (some ⟨g, 0, none⟩) 0 cap ∧ base ≤ g ∧ g < W.heap.size) := by
  rcases h.1.2 with ⟨rfl, h1⟩ | ⟨g, cap, cur, rfl, h1, h2, h3, h4, h5, h6⟩
  · exact .inl rfl
  · exact .inr ⟨g, cap, by rw [h0], h1, (Array.getElem?_eq_some_iff.1 h2).1⟩
theorem OwnR.set_ {base : Nat} {W : World} {g n cap : Nat} {l : List Nat} (h : OwnR base W (.slice (some ⟨g, 0, none⟩) n cap) l) {i x : Nat} (hi : i < l.length) (hx : x < 4294967296) :
    OwnR base (W.setCell ⟨g, i, none⟩ (.int .u32 (x : Int))) (.slice (some ⟨g, 0, none⟩) n cap) (l.set i x) := by
  refine ⟨⟨by rw [wv_length]; omega, ?_⟩, fun y hy => ?_⟩
  · rcases h.1.2 with ⟨h1, _⟩ | ⟨g', cap', cur, h1, h2, h3, h4, h5, h6, h7⟩
    · cases h1
    · injection h1 with h1 h8 h9
      injection h1 with h1
      injection h1 with h1
      subst h1 h9 h8
      refine .inr ⟨g, cap, cur.setIfInBounds i (.int .u32 (x : Int)), by rw [List.length_set], h2, ?_, by rw [List.length_set]; exact h4, h5, by simpa using h6, ?_⟩
      · simp [World.setCell, Array.getElem?_modify, h3]
      · rw [List.length_set, Array.toList_setIfInBounds, List.take_set, h7]
        simp [wv, List.map_set]
  · rcases List.mem_or_eq_of_mem_set hy with h1 | h1
    · exact h.2 y h1
    · rw [h1]; exact hx
theorem OwnR.below {base : Nat} {W W' : World} {v : Value} {l : List Nat} (h : OwnR base W v l) (hb : Below W.heap.size W W') : OwnR base W' v l :=
  ⟨h.1.kept (row := none) ⟨hb.os, hb.tape, hb.output, hb.size, fun k hk _ => hb.block k hk⟩ (by cases hv : v.ownBlock <;> simp), h.2⟩

theorem OwnR.slice {base : Nat} {W : World} {v : Value} {l : List Nat} (h : OwnR base W v l) : ∃ A c, v = .slice A l.length c := by
  rcases h.1.2 with ⟨rfl, h1⟩ | ⟨g, cap, cur, rfl, h1, h2, h3, h4, h5, h6⟩
  · exact ⟨none, 0, by rw [h1]⟩
  · exact ⟨_, cap, rfl⟩

/-- What extend leaves. -/
def ExtR (base : Nat) (w : World) (v : Value) (N : Nat) (e : Ending) (w' : World) : Prop :=
  ∃ v' l', e = .returned v' ∧ OwnR base w' v' l' ∧ Top l' ∧ val l' = N ∧ w.grownBy w' v.ownBlock ∧ (l'.length = 0 → v' = .slice none 0 0)

theorem top_of_ge {S : List Nat} (hS : ∀ x ∈ S, x < 4294967296) (h : 0 < S.length → BB (S.length - 1) ≤ val S) : Top S := fun h0 e => by
  have h1 : S = S.take (S.length - 1) ++ [gd S (S.length - 1)] := by
    have := take_snoc S (k := S.length - 1) (by omega)
    rw [show S.length - 1 + 1 = S.length from by omega, List.take_length] at this
    exact this
  have h2 : val S = val (S.take (S.length - 1)) + BB (S.length - 1) * gd S (S.length - 1) := by
    have := val_snoc (S.take (S.length - 1)) (gd S (S.length - 1))
    rw [← h1, List.length_take, Nat.min_eq_left (by omega)] at this
    exact this
  rw [e, Nat.mul_zero] at h2
  have h3 := val_lt (words_take hS (S.length - 1))
  rw [List.length_take, Nat.min_eq_left (by omega)] at h3
  have := h h0
  omega
theorem ext_step {vS K r vl x d c t : Nat} (hv : vS + K * r = vl * d + c) (ht : t = x * d + r) :
    vS + K * (t % 4294967296) + K * 4294967296 * (t / 4294967296) = (vl + K * x) * d + c := by
  have h1 : K * (t % 4294967296) + K * 4294967296 * (t / 4294967296) = K * t := by
    rw [Nat.mul_assoc, ← Nat.mul_add, Nat.mod_add_div]
  rw [Nat.add_assoc, h1, ht, Nat.mul_add, Nat.add_mul, Nat.mul_assoc]
  omega
theorem set_pre {S l : List Nat} {k x : Nat} (hS : S.length = k) (hk : k < l.length) : (S ++ l.drop k).set k x = (S ++ [x]) ++ l.drop (k + 1) := by
  rw [List.set_append_right _ _ (by omega), hS, Nat.sub_self, List.drop_eq_getElem_cons hk, List.set_cons_zero]
  simp
theorem gd_pre {S l : List Nat} {k : Nat} (hS : S.length = k) : gd (S ++ l.drop k) k = gd l k := by
  simp only [gd, List.getD_eq_getElem?_getD]
  rw [List.getElem?_append_right (by omega), hS, Nat.sub_self, List.getElem?_drop, Nat.add_zero]

set_option maxRecDepth 100000 in
set_option maxHeartbeats 400000 in
theorem extend_zero (base : Nat) (w : World) (d : Nat) (hd : d < 4294967296) :
    Calls Tryd.prog 41 #[.slice none 0 0, .int .u32 (d : Int), .int .u32 0] w (ExtR base w (.slice none 0 0) 0) := by
  go_enter Tryd.func41, Tryd.ntmps41
  go_wp2_with fail
  go_loopw [7, 15] (fun cv iv wr => cv = .int .u64 0 ∧ iv = .int .i64 0 ∧ wr = w) (fun _ _ _ => 0)
  case atStart => exact ⟨rfl, rfl, rfl⟩
  case round =>
    obtain ⟨rfl, rfl, hwr⟩ := hrel
    rw [hwr]
    go_wp2_with fail
    go_ret
    exact ⟨_, [], rfl, OwnR.nil _ _, top_nil, rfl, ⟨rfl, rfl, rfl, Nat.le_refl _, fun _ _ _ => rfl⟩, fun _ => rfl⟩

set_option maxRecDepth 100000 in
set_option maxHeartbeats 400000 in
theorem extend_first (base : Nat) (w : World) (d c : Nat) (hd : d < 4294967296) (hc0 : 0 < c) (hc : c < 4294967296) (hbase : base ≤ w.heap.size) :
    Calls Tryd.prog 41 #[.slice none 0 0, .int .u32 (d : Int), .int .u32 (c : Int)] w (ExtR base w (.slice none 0 0) c) := by
  obtain ⟨i0, hi0, hz0, hz1, hz2⟩ := info_v
  have hne : ((c : Int) != 0) = true := by simp; omega
  go_enter Tryd.func41, Tryd.ntmps41
  go_wp2_with fail
  go_loopw [7, 15] (fun cv iv wr => cv = .int .u64 (c : Int) ∧ iv = .int .i64 0 ∧ wr = w) (fun _ _ _ => 0)
  case atStart => exact ⟨rfl, rfl, rfl⟩
  case round =>
    obtain ⟨rfl, rfl, hwr⟩ := hrel
    rw [hwr]
    have hone : Blk (w.alloc (.cells #[.int .u32 (c : Int)] 58)) w.heap.size [c] := Blk.new w [c] (by simpa using hc)
    have hws := hone.ws (o := 0) (n := 1) (by simp)
    rw [List.drop_zero, show List.take 1 [c] = [c] from rfl] at hws
    go_wp2_with (at_builtin; refine wpList_append_lies _ rfl (.tmp 37) (.tmp 40) _ rfl base 58 i0 _ 1 4 Tryd.underlying22 hi0 hz0 hz1 hz2 rfl (by omega) (.slice none 0 0) 0 [] rfl ⟨rfl, .inl ⟨rfl, rfl⟩⟩ ⟨w.heap.size, 0, none⟩ 1 1 (([c] : List Nat).map fun (x : Nat) => Value.int .u32 (x : Int)) rfl (by simp) (news_ws (k := 1) (l := [c]) (by simp) hws) one_words (by omega) (by simp only [maxLen]; omega) (by omega) (by simp; omega) _ rfl ?_; intro g cap w3 hown hgrow hat hlt3)
    go_ret
    refine ⟨_, [c], rfl, ⟨hown, by simpa using hc⟩, fun _ => by show c ≠ 0; omega, by simp [val], ?_, fun h => by simp at h⟩
    exact ⟨hgrow.os, hgrow.tape, hgrow.output, by have := hgrow.size; simp at this; omega, fun k hk hn => (hgrow.block k (by simp; omega) hn).trans (Below.heap_alloc _ _ _ hk)⟩

set_option maxRecDepth 100000 in
set_option maxHeartbeats 1000000 in
theorem extend_own (base : Nat) (w : World) (g cap : Nat) (l : List Nat) (d c : Nat) (hl : OwnR base w (.slice (some ⟨g, 0, none⟩) l.length cap) l) (h0 : 0 < l.length) (hlen : l.length ≤ 1000000) (hT : Top l) (hd0 : 0 < d) (hd : d < 4294967296) (hc : c < 4294967296) (hbase : base ≤ w.heap.size) :
    Calls Tryd.prog 41 #[.slice (some ⟨g, 0, none⟩) l.length cap, .int .u32 (d : Int), .int .u32 (c : Int)] w (ExtR base w (.slice (some ⟨g, 0, none⟩) l.length cap) (val l * d + c)) := by
  obtain ⟨i0, hi0, hz0, hz1, hz2⟩ := info_v
  have HT := Lib.hid hT
  clear hT
  go_enter Tryd.func41, Tryd.ntmps41
  go_wp2_with fail
  go_loopw [7, 15] (fun cv iv wr => ∃ (k : Nat) (S : List Nat) (r : Nat), k ≤ l.length ∧ iv = .int .i64 (k : Int) ∧ cv = .int .u64 (r : Int) ∧ r < 4294967296 ∧ S.length = k ∧ (∀ x ∈ S, x < 4294967296) ∧ val S + BB k * r = val (l.take k) * d + c ∧ OwnR base wr (.slice (some ⟨g, 0, none⟩) l.length cap) (S ++ l.drop k) ∧ Only g w wr) (fun _ iv _ => l.length - (intOf iv).toNat)
  case atStart => exact ⟨0, [], c, Nat.zero_le _, rfl, rfl, hc, rfl, by simp, by simp [val, BB], by simpa using hl, only_refl _ _⟩
  case round =>
    obtain ⟨k, S, r, hk, rfl, rfl, hr, hS, hSw, hv, hb, hO⟩ := hrel
    have hSl : (S ++ l.drop k).length = l.length := by rw [List.length_append, List.length_drop, hS]; omega
    obtain ⟨g', cap', e, hg1, hg2, hg3, hws, hf0, hf⟩ := hb.some_ (by omega)
    rw [hSl] at e
    injection e with e1 e2 e3
    injection e1 with e1
    injection e1 with e1
    subst e1 e3
    clear e2
    by_cases hlt : k < l.length
    · obtain ⟨b, off, e, _, hcs⟩ := hws.at_ (by omega)
      injection e with e
      injection e with e1 e2
      subst e1 e2
      have hc1 := hcs k (by omega)
      rw [Nat.zero_add, gd_pre hS] at hc1
      have hfk := hf k
      have hx : gd l k < 4294967296 := getD_lt hl.2 k
      have H1 := Lib.hid (val_take l hlt)
      have hltl : (k : Int) < (l.length : Int) := by omega
      have HS := Lib.hid hS
      have HV := Lib.hid hv
      have HSl := Lib.hid hSl
      have HF := Lib.hid hf
      clear hcs hws hf hS hv hSl
      generalize gd l k = x at *
      have hxy := Nat.mul_le_mul (Nat.le_of_lt_succ hx) (Nat.le_of_lt_succ hd)
      obtain ⟨p, hp⟩ : ∃ p, p = x * d := ⟨_, rfl⟩
      have hpi : (x : Int) * (d : Int) = (p : Int) := by rw [hp]; simp
      have hpl : p ≤ 18446744065119617025 := by omega
      have HP := Lib.hid hp
      clear hp hxy
      go_wp2_with fail
      go_roundw
      case rel =>
        have et : (p + r) % 4294967296 < 4294967296 := Nat.mod_lt _ (by decide)
        refine ⟨k + 1, S ++ [(p + r) % 4294967296], (p + r) / 4294967296, by omega, by go_num, by go_num, by omega, by simp [HS.out], words_snoc hSw et, ?_, ?_, hO.set_ (.inl rfl) _⟩
        · rw [val_snoc, HS.out, H1.out, BB_succ]
          exact ext_step HV.out (by rw [HP.out])
        · have h := hb.set_ (i := k) (by rw [HSl.out]; exact hlt) et
          rw [set_pre HS.out hlt] at h
          exact h
      case measure => simp [intOf]; omega
    · have he : k = l.length := by omega
      subst he
      rw [List.take_length] at hv
      rw [List.drop_length, List.append_nil] at hb
      have hnl : ¬ (l.length : Int) < (l.length : Int) := by omega
      have hlow := val_lower HT.out h0
      have hmono := Nat.le_mul_of_pos_right (val l) hd0
      have HS := Lib.hid hS
      have HV := Lib.hid hv
      clear hS hv hSl hws
      rcases Nat.eq_zero_or_pos r with rfl | hr0
      · go_wp2_with fail
        go_ret
        have hv' : val S = val l * d + c := by have := HV.out; simpa using this
        refine ⟨_, S, rfl, hb, top_of_ge hSw (fun _ => by rw [HS.out]; omega), hv', hO, fun h => by rw [HS.out] at h; omega⟩
      · have hne : ((r : Int) != 0) = true := by simp; omega
        have hone : Blk (wr.alloc (.cells #[.int .u32 (r : Int)] 58)) wr.heap.size [r] := Blk.new wr [r] (by simpa using hr)
        have hws := hone.ws (o := 0) (n := 1) (by simp)
        rw [List.drop_zero, show List.take 1 [r] = [r] from rfl] at hws
        have hb2 := hb.below (ba (b0 wr) (.cells #[.int .u32 (r : Int)] 58))
        have hrow := hb2.1
        rw [HS.out] at hrow
        have hsz := hO.size
        go_wp2_with (at_builtin; refine wpList_append_lies _ rfl (.tmp 37) (.tmp 40) _ rfl base 58 i0 _ 1 4 Tryd.underlying22 hi0 hz0 hz1 hz2 rfl (by omega) (.slice (some ⟨g, 0, none⟩) l.length cap) l.length (wv S) rfl hrow ⟨wr.heap.size, 0, none⟩ 1 1 (([r] : List Nat).map fun (x : Nat) => Value.int .u32 (x : Int)) rfl (by simp) (news_ws (k := 1) (l := [r]) (by simp) hws) one_words (by omega) (by simp only [maxLen]; omega) (by omega) (by simp; omega) _ rfl ?_; intro g2 cap2 w3 hown hgrow hat hlt3)
        go_ret
        refine ⟨_, S ++ [r], rfl, ⟨?_, words_snoc hSw hr⟩, fun _ => ?_, ?_, ?_, fun h => by simp at h⟩
        · have e : wv (S ++ [r]) = wv S ++ ([r] : List Nat).map fun (x : Nat) => Value.int .u32 (x : Int) := by simp [wv]
          rw [e, List.length_append, HS.out]
          exact hown
        · rw [List.length_append, List.length_singleton, Nat.add_sub_cancel]
          simp [gd]
          omega
        · rw [val_snoc, HS.out]; exact HV.out
        · refine ⟨hgrow.os.trans hO.os, hgrow.tape.trans hO.tape, hgrow.output.trans hO.output, ?_, fun k hk hn => ?_⟩
          · have := hgrow.size; simp at this; omega
          · exact (hgrow.block k (by simp; omega) hn).trans ((Below.heap_alloc _ _ _ (by omega)).trans (hO.block k hk hn))

theorem extend_any (base : Nat) (w : World) (v : Value) (l : List Nat) (d c N : Nat) (hl : OwnR base w v l) (h0 : l.length = 0 → v = .slice none 0 0) (hlen : l.length ≤ 1000000) (hT : Top l) (hd0 : 0 < d) (hd : d < 4294967296) (hc : c < 4294967296) (hbase : base ≤ w.heap.size) (hN : N = val l * d + c) :
    Calls Tryd.prog 41 #[v, .int .u32 (d : Int), .int .u32 (c : Int)] w (ExtR base w v N) := by
  subst hN
  rcases Nat.eq_zero_or_pos l.length with h | h
  · rw [h0 h, List.eq_nil_of_length_eq_zero h, show val [] = 0 from rfl, Nat.zero_mul, Nat.zero_add]
    rcases Nat.eq_zero_or_pos c with rfl | hc0
    · exact extend_zero base w d hd
    · exact extend_first base w d c hd hc0 hc hbase
  · obtain ⟨g, cap, rfl, _⟩ := hl.some_ h
    exact extend_own base w g cap l d c hl h hlen hT hd0 hd hc hbase
end Go.Proofs.YtaaipcjbmdbndaaDoor
