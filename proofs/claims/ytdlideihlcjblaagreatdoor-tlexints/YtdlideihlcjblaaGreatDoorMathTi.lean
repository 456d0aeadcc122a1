/- Whole numbers of chapter 10 put together: plain mathematics. -/
import Derived.Test.YtdlideihlcjblaaGreatDoorMathFl
namespace Go.Proofs.YtdlideihlcjblaaGreatDoor

theorem pvB_go (base : Nat) : ∀ (l : List UInt8) (v : Nat), l.foldl (fun v b => base * v + hxV b) v = base ^ l.length * v + pvB base l
  | [], v => by simp [pvB]
  | b :: l, v => by
    unfold pvB
    rw [List.foldl_cons, List.foldl_cons, pvB_go base l, pvB_go base l (base * 0 + hxV b), List.length_cons, Nat.pow_succ]
    simp [Nat.mul_add, Nat.mul_assoc, Nat.add_assoc]
theorem pvB_cons (base : Nat) (b : UInt8) (l : List UInt8) : pvB base (b :: l) = base ^ l.length * hxV b + pvB base l := by
  have : pvB base (b :: l) = l.foldl (fun v b => base * v + hxV b) (base * 0 + hxV b) := rfl
  rw [this, pvB_go]; simp
/-- the digits of base two, from the last -/
structure BitI (n : Nat) (d : List UInt8) (x : Nat) : Prop where
  sum : pvB 2 d + 2 ^ d.length * x = n
  all : ∀ b ∈ d, b.toNat = 48 ∨ b.toNat = 49
  len : d.length ≤ 1 ∨ 2 ^ (d.length - 1) ≤ n
theorem bit_start (n : Nat) : BitI n [] n := ⟨by simp [pvB], (fun b hb => by cases hb), Or.inl (by simp)⟩
theorem bit_byte (x : Nat) : (UInt8.ofNat (48 + x % 2)).toNat = 48 + x % 2 := by
  rw [UInt8.toNat_ofNat']; have := Nat.mod_lt x (show 2 > 0 by decide); omega
theorem bit_step {n : Nat} {d : List UInt8} {x : Nat} (h : BitI n d x) (hx : 0 < x ∨ d = []) : BitI n (UInt8.ofNat (48 + x % 2) :: d) (x / 2) := by
  have hb := bit_byte x
  have hm := Nat.mod_lt x (show 2 > 0 by decide)
  refine ⟨?_, ?_, ?_⟩
  · rw [pvB_cons]
    have hv : hxV (UInt8.ofNat (48 + x % 2)) = x % 2 := by unfold hxV; rw [hb, if_pos (by omega)]; omega
    have hs := h.sum
    have hd := Nat.div_add_mod x 2
    have e : 2 ^ (UInt8.ofNat (48 + x % 2) :: d).length * (x / 2) = 2 ^ d.length * (2 * (x / 2)) := by rw [List.length_cons, Nat.pow_succ, Nat.mul_assoc]
    rw [hv, e]
    have e2 : 2 ^ d.length * x = 2 ^ d.length * (2 * (x / 2)) + 2 ^ d.length * (x % 2) := by rw [← Nat.mul_add, hd]
    omega
  · intro b hb2
    rcases List.mem_cons.1 hb2 with rfl | h2
    · rw [hb]; omega
    · exact h.all b h2
  · rcases hx with hx | rfl
    · right
      have hs := h.sum
      have : 2 ^ d.length ≤ 2 ^ d.length * x := Nat.le_mul_of_pos_right _ hx
      simp; omega
    · left; simp
theorem bit_len {n : Nat} {d : List UInt8} {x : Nat} (h : BitI n d x) (hn : n < 9223372036854775808) : d.length ≤ 64 := by
  rcases h.len with k | k
  · omega
  · apply Classical.byContradiction
    intro hh
    have : 2 ^ 64 ≤ 2 ^ (d.length - 1) := Nat.pow_le_pow_right (by decide) (by omega)
    have e : (2 : Nat) ^ 64 = 18446744073709551616 := by decide
    omega
theorem bit_dg {b : UInt8} (h : b.toNat = 48 ∨ b.toNat = 49) : dgB 2 b = true := by
  unfold dgB hxI hxV; simp; rw [if_pos (by omega)]; omega
theorem bit_end {n : Nat} {d : List UInt8} (h : BitI n d 0) (h0 : d ≠ []) (hn : n < 9223372036854775808) : tnR (48 :: 98 :: d) = leafT 2 (n : Int) ⟨#[]⟩ ∧ tnE (48 :: 98 :: d) = 0 := by
  have hs : pvB 2 d = n := by have := h.sum; simpa using this
  have hc : clnS d = d := cln_self (fun b hb => by have := h.all b hb; omega)
  have hcd := cdn_all (p := dgB 2) d false [] (fun b hb => bit_dg (h.all b hb)) (fun c m e => by cases e)
  rw [List.append_nil] at hcd
  have hds : dgs 2 d = true := by unfold dgs; rw [hcd]; simp [h0]
  have hu : unS (48 :: 98 :: d) = 48 :: 98 :: d := by unfold unS sgA; rw [bt_cons, decide_eq_false (by decide)]; rfl
  have hb : bsB (48 :: 98 :: d) = 2 := by
    unfold bsB
    have e1 : bt (48 :: 98 :: d) 1 = 98 := rfl
    rw [e1, if_neg (by rintro ⟨-, k, -⟩; omega), if_neg (by rintro ⟨-, k, -⟩; omega), if_pos ⟨rfl, rfl, hds⟩]
  have hi : infB (48 :: 98 :: d) = false := inf_no (by decide)
  have hp : psV 2 (clnS ((48 :: 98 :: d).drop 2)) = some (n : Int) := by
    show psV 2 (clnS d) = _
    rw [hc]; unfold psV; rw [hs, if_pos hn]
  unfold tnR tnE
  rw [hu, hi, hb, hp]
  exact ⟨rfl, rfl⟩
/-- a stroke put at a place -/
def cutS (l : List UInt8) (c : Int) : List UInt8 := if 0 < c ∧ c < l.length then l.take c.toNat ++ (95 :: l.drop c.toNat) else l
theorem cdn_appT {p : UInt8 → Bool} : ∀ (W rest : List UInt8), (∀ b ∈ W, p b = true) → cdN p true (W ++ rest) = W.length + cdN p true rest
  | [], rest, _ => by simp
  | b :: W, rest, h => by
    rw [List.cons_append, cdN, h b (List.mem_cons_self ..), Bool.true_or, if_pos rfl, cdn_appT W rest (fun x hx => h x (List.mem_cons_of_mem _ hx)), List.length_cons]; omega
theorem cdn_cut {A B : List UInt8} (hA : A.all isD = true) (hB : B.all isD = true) (a0 : A ≠ []) (b0 : B ≠ []) : cdN (dgB 10) false (A ++ (95 :: B)) = (A ++ (95 :: B)).length := by
  cases A with
  | nil => exact absurd rfl a0
  | cons a A =>
    cases B with
    | nil => exact absurd rfl b0
    | cons b B =>
      have ha := all_dg hA
      have hb := all_dg hB
      rw [List.cons_append, cdN, ha a (List.mem_cons_self ..), Bool.true_or, if_pos rfl, cdn_appT A _ (fun x hx => ha x (List.mem_cons_of_mem _ hx)), cdN]
      have e : hdB (dgB 10) (b :: B) = true := hb b (List.mem_cons_self ..)
      have hall := cdn_appT (p := dgB 10) (b :: B) [] hb
      rw [List.append_nil] at hall
      rw [e, hall]
      simp [cdN]; omega
theorem all_split {A B : List UInt8} (h : (A ++ B).all isD = true) : A.all isD = true ∧ B.all isD = true := by
  rw [List.all_append, Bool.and_eq_true] at h; exact h
theorem dig95 {l : List UInt8} (h : l.all isD = true) : ∀ b ∈ l, b.toNat ≠ 95 := fun b hb => by
  have := isD_bd (List.all_eq_true.1 h b hb); omega
structure Cut (W S : List UInt8) : Prop where
  cln : clnS S = W
  cnt : cdN (dgB 10) false S = S.length
  hd : ∃ a t, S = a :: t ∧ isD a = true ∧ (a.toNat = 48 → S = [48])
  len : S.length ≤ W.length + 1
theorem cut_of (N : Nat) (c : Int) : Cut (natD N) (cutS (natD N) c) := by
  have hall := natD_all N
  have hok := natD_ok N
  obtain ⟨a, t, e, ha⟩ := natD_head N
  unfold cutS
  by_cases h : 0 < c ∧ c < (natD N).length
  · rw [if_pos h]
    generalize hk : c.toNat = k
    have hk1 : 0 < k ∧ k < (natD N).length := by omega
    have hsp := List.take_append_drop k (natD N)
    have h1 := hall
    rw [← hsp] at h1
    obtain ⟨hA, hB⟩ := all_split h1
    have a0 : (natD N).take k ≠ [] := by intro x; have := congrArg List.length x; rw [List.length_take, List.length_nil] at this; omega
    have b0 : (natD N).drop k ≠ [] := by intro x; have := congrArg List.length x; rw [List.length_drop, List.length_nil] at this; omega
    refine ⟨?_, cdn_cut hA hB a0 b0, ?_, ?_⟩
    · unfold clnS
      rw [List.filter_append, List.filter_cons, if_neg (by decide)]
      have e1 := cln_self (dig95 hA)
      have e2 := cln_self (dig95 hB)
      unfold clnS at e1 e2
      rw [e1, e2, hsp]
    · rw [e]
      obtain ⟨m, rfl⟩ : ∃ m, k = m + 1 := ⟨k - 1, by omega⟩
      refine ⟨a, _, rfl, ha, fun h48 => ?_⟩
      exfalso
      rcases hok with q | q
      · omega
      · rw [e] at q; exact q h48
    · simp; omega
  · rw [if_neg h]
    refine ⟨cln_self (dig95 hall), ?_, ⟨a, t, e, ha, fun h48 => ?_⟩, by omega⟩
    · have := cdn_all (natD N) false [] (all_dg hall) (fun c m e => by cases e)
      rw [List.append_nil] at this; exact this
    · rcases hok with q | q
      · rw [e] at q ⊢
        cases t with
        | nil => rw [show a = 48 from UInt8.toNat_inj.1 h48]
        | cons b t => simp at q
      · rw [e] at q; exact absurd h48 q
theorem pub_nat {N : Nat} (hN : N < 9223372036854775808) : Lib.parseUintB 64 (natD N) = .ok N := by
  have := pub (natD N) [] (natD_all N) (natD_ne N)
  rw [List.append_nil, natD_val, if_pos (by omega)] at this
  rw [this]; rfl
theorem piV_plus {N : Nat} (hN : N < 9223372036854775808) : piV (43 :: natD N) = some (N : Int) := by
  unfold piV Lib.parseIntB
  have e : (if (43 : UInt8).toNat = 43 ∨ (43 : UInt8).toNat = 45 then natD N else 43 :: natD N) = natD N := if_pos (Or.inl rfl)
  simp only [e, pub_nat hN]
  rw [if_neg (by rintro ⟨-, k⟩; simp at k; omega), if_neg (by rintro ⟨k, -⟩; exact absurd k (by decide)), if_neg (by decide)]
theorem piV_minus {N : Nat} (hN : N < 9223372036854775808) : piV (45 :: natD N) = some (-(N : Int)) := by
  unfold piV Lib.parseIntB
  have e : (if (45 : UInt8).toNat = 43 ∨ (45 : UInt8).toNat = 45 then natD N else 45 :: natD N) = natD N := if_pos (Or.inr rfl)
  simp only [e, pub_nat hN]
  rw [if_neg (by rintro ⟨k, -⟩; exact k rfl), if_neg (by rintro ⟨-, k⟩; simp at k; omega), if_pos (by decide)]
theorem piV_nat {N : Nat} (hN : N < 9223372036854775808) : piV (natD N) = some (N : Int) := by
  obtain ⟨a, t, e, ha⟩ := natD_head N
  have hb := isD_bd ha
  have hp := pub_nat hN
  rw [e] at hp ⊢
  unfold piV Lib.parseIntB
  have e : (if a.toNat = 43 ∨ a.toNat = 45 then t else a :: t) = a :: t := if_neg (by omega)
  simp only [e, hp]
  rw [if_neg (by rintro ⟨-, k⟩; simp at k; omega), if_neg (by rintro ⟨k, -⟩; omega), if_neg (by omega)]
theorem kd_cut {W S : List UInt8} (h : Cut W S) : kdN S = 2 := by
  obtain ⟨a, t, e, ha, h48⟩ := h.hd
  unfold kdN
  rw [h.cnt, if_neg, if_pos (List.drop_length)]
  rintro (k | ⟨k1, k2⟩)
  · rw [e] at k; simp at k
  · have : a.toNat = 48 := by rw [e] at k2; exact k2
    rw [h48 this] at k1; simp at k1
theorem tn_int {l : List UInt8} {v : Int} (h1 : infB (unS l) = false) (h2 : bsB l = 0) (h3 : kdN (unS l) = 2) (hp : piV (clnS l) = some v) : tnR l = leafT 2 v ⟨#[]⟩ ∧ tnE l = 0 := by
  unfold tnR tnE
  rw [h1, h2, h3, hp]
  exact ⟨rfl, rfl⟩
theorem tiA {N : Nat} {S : List UInt8} (hN : N < 9223372036854775808) (h : Cut (natD N) S) : tnR S = leafT 2 (N : Int) ⟨#[]⟩ ∧ tnE S = 0 := by
  obtain ⟨a, t, e, ha, h48⟩ := h.hd
  have hb := isD_bd ha
  have hu : unS S = S := by unfold unS sgA; rw [e, bt_cons, decide_eq_false (by omega)]; rfl
  refine tn_int (by rw [hu, e]; exact inf_no ha) ?_ (by rw [hu]; exact kd_cut h) (by rw [h.cln]; exact piV_nat hN)
  by_cases k : a.toNat = 48
  · rw [h48 k]; rfl
  · have h0 : ¬ bt S 0 = 48 := by rw [e]; exact k
    unfold bsB; rw [if_neg (fun q => h0 q.1), if_neg (fun q => h0 q.1), if_neg (fun q => h0 q.1)]
theorem tiB {N : Nat} {S : List UInt8} (hN : N < 9223372036854775808) (h : Cut (natD N) S) : tnR (43 :: S) = leafT 2 (N : Int) ⟨#[]⟩ ∧ tnE (43 :: S) = 0 := by
  obtain ⟨a, t, e, ha, h48⟩ := h.hd
  have hu : unS (43 :: S) = S := rfl
  have hc : clnS (43 :: S) = 43 :: natD N := by have := h.cln; unfold clnS at this ⊢; rw [List.filter_cons, if_pos (by decide), this]
  exact tn_int (by rw [hu, e]; exact inf_no ha) (by unfold bsB; rw [bt_cons]; rfl) (by rw [hu]; exact kd_cut h) (by rw [hc]; exact piV_plus hN)
theorem tiC {N : Nat} {S : List UInt8} (hN : N < 9223372036854775808) (h : Cut (natD N) S) : tnR (45 :: S) = leafT 2 (-(N : Int)) ⟨#[]⟩ ∧ tnE (45 :: S) = 0 := by
  obtain ⟨a, t, e, ha, h48⟩ := h.hd
  have hu : unS (45 :: S) = S := rfl
  have hc : clnS (45 :: S) = 45 :: natD N := by have := h.cln; unfold clnS at this ⊢; rw [List.filter_cons, if_pos (by decide), this]
  exact tn_int (by rw [hu, e]; exact inf_no ha) (by unfold bsB; rw [bt_cons]; rfl) (by rw [hu]; exact kd_cut h) (by rw [hc]; exact piV_minus hN)
end Go.Proofs.YtdlideihlcjblaaGreatDoor
