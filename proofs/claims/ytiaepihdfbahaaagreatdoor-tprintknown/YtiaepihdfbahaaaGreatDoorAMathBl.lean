/- Plain mathematics: how long what is written of a value of TOML may be. -/
import Derived.Test.YtiaepihdfbahaaaGreatDoorATqC
import Derived.Test.YtiaepihdfbahaaaGreatDoorATqF
namespace Go.Proofs.YtiaepihdfbahaaaGreatDoor
open Go.RowKit

mutual
/-- each number an int64, each map as many keys as values -/
def wnT : VT → Prop
  | .mk _ n _ L K V => (-9223372036854775808 ≤ n ∧ n < 9223372036854775808) ∧ K.length = V.length ∧ wnL L ∧ wnL V
def wnL : List VT → Prop
  | [] => True
  | t :: r => wnT t ∧ wnL r
end
theorem wnL_get : ∀ (L : List VT), (∀ (i : Nat) (t : VT), L[i]? = some t → wnT t) → wnL L
  | [], _ => by rw [wnL]; trivial
  | a :: r, h => by rw [wnL]; exact ⟨h 0 a rfl, wnL_get r fun i t ht => h (i + 1) t ht⟩
theorem HV.wn {w : World} {T : VT} {x y : Value} (h : HV w T x y) : wnT T := by
  induction h with
  | mk a b f g p q hk hn hs hL hM hK cL cK cM rL rM ihL ihM =>
    rw [wnT]
    refine ⟨?_, hK, wnL_get _ ihL, wnL_get _ ihM⟩
    simp [Lit.wf, IntKind.min, IntKind.max, IntKind.signed, IntKind.bits] at hn
    omega
theorem qt_le {s : ByteArray} (h : s.size ≤ 4096) : (qtA true s.data.toList).length ≤ 24578 := by
  unfold qtA
  have h2 := qtK_len true s.data.toList (cnt s.data.toList)
  have h3 := cnt_le s.data.toList
  rw [size_list] at h3
  rw [List.length_append, List.length_singleton]; omega
theorem pk_le {s : ByteArray} (h : s.size ≤ 4096) : (pkB s.data.toList).length ≤ 24578 := by
  unfold pkB
  split
  · rw [size_list]; omega
  · exact qt_le h
theorem sg_le {k n : Int} {s : ByteArray} {L V : List VT} {K : List ByteArray} (hnode : nodeB (.mk k n s L K V) = true) (hn : -9223372036854775808 ≤ n ∧ n < 9223372036854775808) : (sgS k n s).length ≤ 24600 := by
  by_cases h4 : k = 4
  · subst h4
    unfold nodeB nodeC at hnode
    simp only [VT.kd, VT.nm, VT.st, VT.ls, VT.ks, VT.vs] at hnode
    simp at hnode
    have := qt_le (tq_te hnode.1.1.2)
    rw [show sgS 4 n s = qtA true s.data.toList from rfl]
    omega
  unfold nodeB nodeC at hnode
  simp only [VT.kd, VT.nm, VT.st, VT.ls, VT.ks, VT.vs] at hnode
  unfold sgS
  have hz := size_list s
  by_cases h1 : k = 1
  · rw [if_pos h1]; split <;> simp
  rw [if_neg h1]
  by_cases h2 : k = 2
  · rw [if_pos h2]; have := txt_len n hn.1 hn.2; omega
  rw [if_neg h2, if_neg h4]
  by_cases h3 : k = 3
  · subst h3
    simp at hnode
    have h5 := hnode.1.1.2.1
    unfold numB at h5
    simp only [Bool.and_eq_true, decide_eq_true_eq] at h5
    have := h5.2
    omega
  by_cases h7 : k = 7
  · subst h7
    simp at hnode
    have h5 := hnode.1.1.2
    unfold stampB at h5
    simp only [Bool.and_eq_true, decide_eq_true_eq] at h5
    omega
  have he : s.toList.isEmpty = true → s.data.toList.length = 0 := fun h => by rw [Lib.toList_data] at h; rw [List.isEmpty_iff.1 h]; rfl
  by_cases h0 : k = 0
  · subst h0; simp at hnode; have := he (by simpa using hnode.1.1.2); omega
  by_cases h5 : k = 5
  · subst h5; simp at hnode; have := he (by simpa using hnode.1.2); omega
  by_cases h6 : k = 6
  · subst h6; simp at hnode; have := he (by simpa using hnode.1.1.2); omega
  simp [h0, h1, h2, h3, h4, h7, h5, h6] at hnode
/-- a good node's keys are short -/
theorem keys_le {k n : Int} {s : ByteArray} {L : List VT} {K : List ByteArray} {V : List VT} (h : nodeB (.mk k n s L K V) = true) (hK : K.length = V.length) : ∀ c ∈ K, c.size ≤ 4096 := by
  intro c hc
  rcases (node_len h).2 with h6 | h0
  · subst h6
    unfold nodeB nodeC at h
    simp only [VT.kd, VT.nm, VT.st, VT.ls, VT.ks, VT.vs] at h
    simp at h
    exact keys_small h.2 c hc
  · rw [h0] at hK
    rw [List.eq_nil_of_length_eq_zero hK] at hc
    cases hc
theorem co_le (b : Bool) : (coB b).length ≤ 2 := by cases b <;> decide
mutual
theorem ivT_len : ∀ T : VT, plainT T = true → wnT T → (ivT T).length + 25000 ≤ 50000 * szT T
  | .mk k n s L K V, hp, hw => by
    rw [plainT, Bool.and_eq_true, Bool.and_eq_true] at hp
    obtain ⟨⟨hnode, hpL⟩, hpV⟩ := hp
    rw [wnT] at hw
    obtain ⟨hn, hK, hwL, hwV⟩ := hw
    have h1 := ivL_len true L hpL hwL
    have h2 := ivM_len true V K hpV hwV hK (keys_le hnode hK)
    have hsz : szT (.mk k n s L K V) = 1 + szL L + szL V := by rw [szT]
    rw [hsz, ivT]
    split
    · rw [List.length_cons, List.length_append, List.length_singleton]; omega
    · split
      · rw [List.length_cons, List.length_append, List.length_singleton]; omega
      · have := sg_le hnode hn; omega
theorem ivL_len : ∀ (b : Bool) (L : List VT), plainL L = true → wnL L → (ivL b L).length ≤ 50000 * szL L
  | b, [], _, _ => by simp [ivL]
  | b, t :: r, hp, hw => by
    rw [plainL, Bool.and_eq_true] at hp
    rw [wnL] at hw
    have h1 := ivT_len t hp.1 hw.1
    have h2 := ivL_len false r hp.2 hw.2
    have h3 := co_le b
    rw [ivL, szL, List.length_append, List.length_append]; omega
theorem ivM_len : ∀ (b : Bool) (V : List VT) (K : List ByteArray), plainL V = true → wnL V → K.length = V.length → (∀ c ∈ K, c.size ≤ 4096) → (ivM b V K).length ≤ 50000 * szL V
  | b, [], K, _, _, _, _ => by simp [ivM]
  | b, t :: r, [], _, _, h, _ => by simp at h
  | b, t :: r, c :: K, hp, hw, hK, hk => by
    rw [plainL, Bool.and_eq_true] at hp
    rw [wnL] at hw
    have h1 := ivT_len t hp.1 hw.1
    have h2 := ivM_len false r K hp.2 hw.2 (by simpa using hK) (fun d hd => hk d (List.mem_cons_of_mem _ hd))
    have h3 := co_le b
    have h4 := pk_le (hk c List.mem_cons_self)
    rw [ivM, szL, List.headD_cons, List.tail_cons]
    simp only [List.length_append, List.length_cons, List.length_nil]; omega
end
/-- the nodes of the pairs that stand in a line of their own -/
def szPl : List VT → Nat
  | [] => 0
  | t :: r => (if plnD t = true then szT t else 0) + szPl r
theorem plM_len : ∀ (V : List VT) (K : List ByteArray) (s : List UInt8), plainL V = true → wnL V → K.length = V.length → (∀ c ∈ K, c.size ≤ 4096) → (plM V K s).length ≤ s.length + 50000 * szPl V
  | [], K, s, _, _, _, _ => by simp [plM, szPl]
  | t :: r, [], s, _, _, h, _ => by simp at h
  | t :: r, c :: K, s, hp, hw, hK, hk => by
    rw [plainL, Bool.and_eq_true] at hp
    rw [wnL] at hw
    have h1 := ivT_len t hp.1 hw.1
    have h2 := plM_len r K (plpB t c.data.toList s) hp.2 hw.2 (by simpa using hK) (fun d hd => hk d (List.mem_cons_of_mem _ hd))
    have h4 := pk_le (hk c List.mem_cons_self)
    rw [plM, szPl, List.headD_cons, List.tail_cons]
    have h5 : (plpB t c.data.toList s).length ≤ s.length + 50000 * (if plnD t = true then szT t else 0) := by
      unfold plpB
      split
      · simp only [List.length_append, List.length_cons, List.length_nil]; omega
      · omega
    have h6 : 50000 * ((if plnD t = true then szT t else 0) + szPl r) = 50000 * (if plnD t = true then szT t else 0) + 50000 * szPl r := Nat.mul_add _ _ _
    omega
theorem jp_le {p : List UInt8} {c : ByteArray} (h : c.size ≤ 4096) : (jpB p c.data.toList).length ≤ p.length + 24600 := by
  have := pk_le h
  unfold jpB
  split
  · omega
  · simp only [List.length_append, List.length_singleton]; omega
theorem hh_le (s h : List UInt8) : (hhB s h).length ≤ s.length + h.length + 2 := by
  unfold hhB; split
  · simp only [List.length_append, List.length_singleton, List.length_nil]; omega
  · simp only [List.length_append, List.length_singleton]; omega
theorem hg_cons (t : VT) (r : List VT) : hgL (t :: r) = max (hgT t) (hgL r) := by rw [hgL]
set_option maxRecDepth 100000 in
theorem bd_ar1 {a p g h m : Nat} (h1 : a ≤ p + 24600) (h2 : m = max g h) (h3 : p + 24600 * (m + 1) ≤ 900000) : a + 24600 * g ≤ 900000 := by omega
set_option maxRecDepth 100000 in
theorem bd_ar2 {p g h m : Nat} (h2 : m = max g h) (h3 : p + 24600 * (m + 1) ≤ 900000) : p + 24600 * (h + 1) ≤ 900000 := by omega
set_option maxRecDepth 100000 in
theorem bd_ar3 {x s z B P S : Nat} {b : Bool} (h1 : x ≤ s + (if b = true then 0 else 1000000 * z)) (h2 : B + 1000000 * P ≤ x + 1000000 * S) : B + 1000000 * ((if b = true then z else 0) + P) ≤ s + 1000000 * (z + S) := by
  cases b
  · rw [if_neg (by decide)] at h1 ⊢; omega
  · rw [if_pos rfl] at h1 ⊢; omega
set_option maxRecDepth 100000 in
theorem bd_ar4 {p h m g : Nat} (h1 : m = 1 + max g h) (h3 : p + 24600 * m ≤ 900000) : p + 24600 * (h + 1) ≤ 900000 ∧ p + 24600 * (g + 1) ≤ 900000 := by omega
set_option maxRecDepth 100000 in
theorem bd_ar5 {s q d hh pl P bd L V : Nat} (hq : q ≤ 900000) (h1 : hh ≤ s + d + 2) (h1' : d ≤ q + 4) (h2 : pl ≤ hh + 50000 * P) (h3 : bd + 1000000 * P ≤ pl + 1000000 * V) : bd ≤ s + 1000000 * (1 + L + V) := by omega
set_option maxRecDepth 100000 in
theorem bd_ar7 {q m : Nat} (h : q + 24600 * m ≤ 900000) : q ≤ 900000 := by omega
set_option maxRecDepth 100000 in
theorem bd_ar8 {q m : Nat} (h : q + 24600 * (m + 1) ≤ 900000) : q + 24600 * m ≤ 900000 := by omega
theorem bd_ar9 {s B S : Nat} (h : B ≤ s + S) {L V c : Nat} (hS : S = c * L) : B ≤ s + c * (1 + L + V) := by
  rw [hS] at h
  have := Nat.mul_le_mul_left c (show L ≤ 1 + L + V by omega)
  exact Nat.le_trans h (Nat.add_le_add_left this _)
set_option maxRecDepth 100000 in
theorem bd_ar6 {s T r B x : Nat} (h1 : x ≤ s + 1000000 * T) (h2 : B ≤ x + 1000000 * r) : B ≤ s + 1000000 * (T + r) := by omega
set_option maxRecDepth 100000 in
set_option maxHeartbeats 2000000 in
mutual
theorem bdM_len : ∀ (V : List VT) (K : List ByteArray) (s p : List UInt8), plainL V = true → wnL V → K.length = V.length → (∀ c ∈ K, c.size ≤ 4096) → p.length + 24600 * (hgL V + 1) ≤ 900000 → (bdM V K s p).length + 1000000 * szPl V ≤ s.length + 1000000 * szL V
  | [], K, s, p, _, _, _, _, _ => by simp [bdM, szPl, szL]
  | t :: r, [], s, p, _, _, h, _, _ => by simp at h
  | t :: r, c :: K, s, p, hp, hw, hK, hk, hq => by
    rw [plainL, Bool.and_eq_true] at hp
    rw [wnL] at hw
    have hj := jp_le (p := p) (hk c List.mem_cons_self)
    have hgc := hg_cons t r
    have h1 := bdX_len t s (jpB p c.data.toList) hp.1 hw.1 (bd_ar1 hj hgc hq)
    have h2 := bdM_len r K (bdX t s (jpB p c.data.toList)) p hp.2 hw.2 (Nat.succ.inj hK) (fun d hd => hk d (List.mem_cons_of_mem _ hd)) (bd_ar2 hgc hq)
    rw [bdM, szPl, szL, List.headD_cons, List.tail_cons]
    exact bd_ar3 h1 h2
theorem bdX_len : ∀ (t : VT) (s q : List UInt8), plainT t = true → wnT t → q.length + 24600 * hgT t ≤ 900000 → (bdX t s q).length ≤ s.length + (if plnD t = true then 0 else 1000000 * szT t)
  | .mk k n u L K V, s, q, hp, hw, hq => by
    rw [plainT, Bool.and_eq_true, Bool.and_eq_true] at hp
    obtain ⟨⟨hnode, hpL⟩, hpV⟩ := hp
    rw [wnT] at hw
    obtain ⟨hn, hK, hwL, hwV⟩ := hw
    have hsz : szT (.mk k n u L K V) = 1 + szL L + szL V := by rw [szT]
    have hhg : hgT (.mk k n u L K V) = 1 + max (hgL L) (hgL V) := by rw [hgT]
    obtain ⟨hq1, hq2⟩ := bd_ar4 hhg hq
    have hq0 : q.length ≤ 900000 := bd_ar7 hq
    rw [hsz, bdX]
    by_cases h6 : k = 6
    · have hpn : plnD (.mk k n u L K V) = false := by unfold plnD; simp only [VT.kd]; rw [h6]; rfl
      rw [if_pos h6, hpn, if_neg (by decide)]
      have h1' : (hd1 q).length ≤ q.length + 4 := by unfold hd1; simp
      exact bd_ar5 hq0 (hh_le s (hd1 q)) h1' (plM_len V K (hhB s (hd1 q)) hpV hwV hK (keys_le hnode hK)) (bdM_len V K (plM V K (hhB s (hd1 q))) q hpV hwV hK (keys_le hnode hK) hq1)
    · rw [if_neg h6]
      by_cases hd : dtbB (.mk k n u L K V) = true
      · have hpn : plnD (.mk k n u L K V) = false := by unfold plnD; rw [hd, Bool.not_true, Bool.and_false]
        rw [if_pos hd, hpn, if_neg (by decide)]
        have h3 := bdL_len L s q hpL hwL hq2
        exact bd_ar9 h3 rfl
      · rw [if_neg hd]; exact Nat.le_add_right _ _
theorem bdL_len : ∀ (L : List VT) (s q : List UInt8), plainL L = true → wnL L → q.length + 24600 * (hgL L + 1) ≤ 900000 → (bdL L s q).length ≤ s.length + 1000000 * szL L
  | [], s, q, _, _, _ => by rw [bdL, szL]; exact Nat.le_add_right _ _
  | .mk k n u L K V :: r, s, q, hp, hw, hq => by
    rw [plainL, Bool.and_eq_true] at hp
    rw [wnL] at hw
    obtain ⟨hp1, hp2⟩ := hp
    obtain ⟨hw1, hw2⟩ := hw
    rw [plainT, Bool.and_eq_true, Bool.and_eq_true] at hp1
    obtain ⟨⟨hnode, hpL⟩, hpV⟩ := hp1
    rw [wnT] at hw1
    obtain ⟨hn, hK, hwL, hwV⟩ := hw1
    have hsz : szT (.mk k n u L K V) = 1 + szL L + szL V := by rw [szT]
    have hhg : hgT (.mk k n u L K V) = 1 + max (hgL L) (hgL V) := by rw [hgT]
    have hgc := hg_cons (.mk k n u L K V) r
    have hq0 : q.length ≤ 900000 := bd_ar7 hq
    have hqt := bd_ar2 (g := hgL r) (h := hgT (.mk k n u L K V)) (by rw [hgc, Nat.max_comm]) hq
    have hqr := bd_ar2 hgc hq
    obtain ⟨hq1, -⟩ := bd_ar4 hhg (bd_ar8 hqt)
    have h1' : (hd2 q).length ≤ q.length + 4 := by unfold hd2; simp
    have h5 := bd_ar5 (L := szL L) hq0 (hh_le s (hd2 q)) h1' (plM_len V K (hhB s (hd2 q)) hpV hwV hK (keys_le hnode hK)) (bdM_len V K (plM V K (hhB s (hd2 q))) q hpV hwV hK (keys_le hnode hK) hq1)
    have h4 := bdL_len r (bdT (.mk k n u L K V) (hhB s (hd2 q)) q) q hp2 hw2 hqr
    rw [bdL, szL, hsz]
    rw [bdT] at h4 ⊢
    exact bd_ar6 h5 h4
end
end Go.Proofs.YtiaepihdfbahaaaGreatDoor
