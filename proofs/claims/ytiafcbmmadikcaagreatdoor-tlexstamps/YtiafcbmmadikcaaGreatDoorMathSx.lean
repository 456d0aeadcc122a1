/- Days and times written in digits: plain mathematics. -/
import Derived.Test.YtiafcbmmadikcaaGreatDoorTlM
namespace Go.Proofs.YtiafcbmmadikcaaGreatDoor

def D2 (a b : UInt8) : Nat := (a.toNat - 48) * 10 + (b.toNat - 48)
theorem dg58 {a : UInt8} (h : dgI a = true) : neB 58 a = true := by unfold dgI at h; unfold neB; simp at h ⊢; omega
theorem dg46 {a : UInt8} (h : dgI a = true) : neB 46 a = true := by unfold dgI at h; unfold neB; simp at h ⊢; omega
theorem dgRow {a : UInt8} (h : dgI a = true) : rowC a = true := by unfold dgI at h; unfold rowC brI; simp at h ⊢; omega
theorem dg_get {a : UInt8} (h : dgI a = true) : 48 ≤ a.toNat ∧ a.toNat ≤ 57 := by unfold dgI at h; simpa using h
theorem dg2_c (a b : UInt8) (l : List UInt8) : dg2 (a :: b :: l) 0 = D2 a b := rfl
theorem dg2_up (a : UInt8) (l : List UInt8) (k : Nat) : dg2 (a :: l) (k + 1) = dg2 l k := by unfold dg2; rw [bt_succ, bt_succ]
theorem tw_two {a b : UInt8} (ha : dgI a = true) (hb : dgI b = true) (n : Nat) : twoB [a, b] n = decide (D2 a b < n) := by
  unfold twoB is2
  rw [dg_at, dg_up, dg_at, ha, hb, dg2_c]; rfl
theorem tw_len {l : List UInt8} (h : l.length ≠ 2) (n : Nat) : twoB l n = false := by unfold twoB; rw [decide_eq_false h]; rfl
theorem spl_c {c b : UInt8} {l h : List UInt8} {t : List (List UInt8)} (hb : neB c b = true) (e : spl c l = h :: t) : spl c (b :: l) = (b :: h) :: t := by rw [spl, if_pos hb, e]
theorem spl_x (c : UInt8) (l : List UInt8) : spl c (c :: l) = [] :: spl c l := by rw [spl, neB_self, if_neg (by decide)]
theorem spl_2 {a b : UInt8} {l : List UInt8} (ha : dgI a = true) (hb : dgI b = true) : spl 58 (a :: b :: 58 :: l) = [a, b] :: spl 58 l := spl_c (dg58 ha) (spl_c (dg58 hb) (spl_x 58 l))
theorem spl_e {a b : UInt8} (ha : dgI a = true) (hb : dgI b = true) : spl 58 [a, b] = [[a, b]] := spl_c (dg58 ha) (spl_c (dg58 hb) rfl)
theorem ck3 {a b c d e f : UInt8} (ha : dgI a = true) (hb : dgI b = true) (hc : dgI c = true) (hd : dgI d = true) (he : dgI e = true) (hf : dgI f = true) : ckS (spl 58 [a, b, 58, c, d, 58, e, f]) [24, 60, 61] = (decide (D2 a b < 24) && (decide (D2 c d < 60) && decide (D2 e f < 61))) := by
  rw [spl_2 ha hb, spl_2 hc hd, spl_e he hf, ckS, ckS, ckS, ckS, tw_two ha hb, tw_two hc hd, tw_two he hf, Bool.and_true]
theorem run46 {l m : List UInt8} (h : ∀ x ∈ l, neB 46 x = true) : run (neB 46) (l ++ m) = l.length + run (neB 46) m := by
  induction l with
  | nil => simp
  | cons b l ih =>
    rw [List.cons_append, run_cpos (h b (List.mem_cons_self ..)), ih (fun x hx => h x (List.mem_cons_of_mem _ hx)), List.length_cons]; omega
theorem tm_plain {l : List UInt8} (h : ∀ x ∈ l, neB 46 x = true) : tmB l = ckS (spl 58 l) [24, 60, 61] := by
  have e : run (neB 46) l = l.length := run_full h
  unfold tmB ckH ckD
  rw [e, List.take_of_length_le (Nat.le_refl _), decide_eq_false (Nat.lt_irrefl _)]; simp
/-- the parts of a clock -/
theorem six {a b c d e f : UInt8} (ha : dgI a = true) (hb : dgI b = true) (hc : dgI c = true) (hd : dgI d = true) (he : dgI e = true) (hf : dgI f = true) : ∀ x ∈ [a, b, 58, c, d, 58, e, f], neB 46 x = true := by
  intro x hx
  simp only [List.mem_cons, List.not_mem_nil, or_false] at hx
  rcases hx with rfl | rfl | rfl | rfl | rfl | rfl | rfl | rfl
  · exact dg46 ha
  · exact dg46 hb
  · decide
  · exact dg46 hc
  · exact dg46 hd
  · decide
  · exact dg46 he
  · exact dg46 hf
theorem st_clock {a b c d e f : UInt8} (ha : dgI a = true) (hb : dgI b = true) (hc : dgI c = true) (hd : dgI d = true) (he : dgI e = true) (hf : dgI f = true) : stB [a, b, 58, c, d, 58, e, f] = (decide (D2 a b < 24) && (decide (D2 c d < 60) && decide (D2 e f < 61))) := by
  unfold stB
  rw [tm_plain (six ha hb hc hd he hf), ck3 ha hb hc hd he hf]
  have : dayB [a, b, 58, c, d, 58, e, f] = false := rfl
  rw [this]; simp
theorem st_frac {a b c d e f : UInt8} (ha : dgI a = true) (hb : dgI b = true) (hc : dgI c = true) (hd : dgI d = true) (he : dgI e = true) (hf : dgI f = true) : stB [a, b, 58, c, d, 58, e, f, 46, 53] = (decide (D2 a b < 24) && (decide (D2 c d < 60) && decide (D2 e f < 61))) := by
  have hr : run (neB 46) [a, b, 58, c, d, 58, e, f, 46, 53] = 8 := run46 (m := [46, 53]) (six ha hb hc hd he hf)
  have ht : tmB [a, b, 58, c, d, 58, e, f, 46, 53] = (decide (D2 a b < 24) && (decide (D2 c d < 60) && decide (D2 e f < 61))) := by
    unfold tmB ckH ckD ckF
    rw [hr]
    show (ckS (spl 58 [a, b, 58, c, d, 58, e, f]) [24, 60, 61] && (!decide (8 < 10) || frB [53])) = _
    rw [ck3 ha hb hc hd he hf]
    have : frB [53] = true := by decide
    rw [this]; simp
  have hd0 : dayB [a, b, 58, c, d, 58, e, f, 46, 53] = false := by
    unfold dayB dayS is2
    have : decide (bt [a, b, 58, c, d, 58, e, f, 46, 53] 7 = 45) = decide (f.toNat = 45) := rfl
    have h2 := dg_get hf
    rw [this, decide_eq_false (show ¬ f.toNat = 45 by omega)]; simp
  unfold stB
  rw [hd0, ht]; simp
/-- a day -/
theorem day_let {a b c d e f g i : UInt8} (ha : dgI a = true) (hb : dgI b = true) (hc : dgI c = true) (hd : dgI d = true) (he : dgI e = true) (hf : dgI f = true) (hg : dgI g = true) (hi : dgI i = true) : dayB [a, b, c, d, 45, e, f, 45, g, i] = decide (1 ≤ D2 e f ∧ D2 e f ≤ 12 ∧ 1 ≤ D2 g i ∧ D2 g i ≤ dim (D2 a b * 100 + D2 c d) (D2 e f)) := by
  unfold dayB
  have : dayS [a, b, c, d, 45, e, f, 45, g, i] = true := by
    simp only [dayS, is2, dg_at, dg_up, bt_cons, bt_succ, ha, hb, hc, hd, he, hf, hg, hi]; rfl
  rw [this]; rfl
theorem day46 {a b c d e f g i : UInt8} (ha : dgI a = true) (hb : dgI b = true) (hc : dgI c = true) (hd : dgI d = true) (he : dgI e = true) (hf : dgI f = true) (hg : dgI g = true) (hi : dgI i = true) : ∀ x ∈ [a, b, c, d, 45, e, f, 45, g, i], neB 46 x = true := by
  intro x hx
  simp only [List.mem_cons, List.not_mem_nil, or_false] at hx
  rcases hx with rfl | rfl | rfl | rfl | rfl | rfl | rfl | rfl | rfl | rfl
  · exact dg46 ha
  · exact dg46 hb
  · exact dg46 hc
  · exact dg46 hd
  · decide
  · exact dg46 he
  · exact dg46 hf
  · decide
  · exact dg46 hg
  · exact dg46 hi
/-- a text whose first part is long is no clock -/
theorem ck_long {a b c : UInt8} {l : List UInt8} {ns : List Nat} (ha : dgI a = true) (hb : dgI b = true) (hc : dgI c = true) : ckS (spl 58 (a :: b :: c :: l)) ns = false := by
  obtain ⟨h, t, e⟩ := spl_ne 58 l
  rw [spl_c (dg58 ha) (spl_c (dg58 hb) (spl_c (dg58 hc) e))]
  cases ns with
  | nil => rfl
  | cons n ns => rw [ckS, tw_len (by simp), Bool.false_and]
theorem tm_long {a b c : UInt8} {l : List UInt8} (ha : dgI a = true) (hb : dgI b = true) (hc : dgI c = true) : tmB (a :: b :: c :: l) = false := by
  unfold tmB ckH
  rw [run_cpos (dg46 ha), run_cpos (dg46 hb), run_cpos (dg46 hc)]
  simp only [List.take_succ_cons]
  rw [ck_long ha hb hc, Bool.false_and]
theorem st_day {a b c d e f g i : UInt8} (ha : dgI a = true) (hb : dgI b = true) (hc : dgI c = true) (hd : dgI d = true) (he : dgI e = true) (hf : dgI f = true) (hg : dgI g = true) (hi : dgI i = true) : stB [a, b, c, d, 45, e, f, 45, g, i] = decide (1 ≤ D2 e f ∧ D2 e f ≤ 12 ∧ 1 ≤ D2 g i ∧ D2 g i ≤ dim (D2 a b * 100 + D2 c d) (D2 e f)) := by
  unfold stB
  rw [tm_long ha hb hc, day_let ha hb hc hd he hf hg hi]; simp
/-- a day, a sign, and what stands behind -/
theorem st_behind {a b c d e f g i s : UInt8} {l : List UInt8} (ha : dgI a = true) (hb : dgI b = true) (hc : dgI c = true) (hd : dgI d = true) (he : dgI e = true) (hf : dgI f = true) (hg : dgI g = true) (hi : dgI i = true) (hs : s.toNat = 84 ∨ s.toNat = 116 ∨ s.toNat = 32) : stB (a :: b :: c :: d :: 45 :: e :: f :: 45 :: g :: i :: s :: l) = (decide (1 ≤ D2 e f ∧ D2 e f ≤ 12 ∧ 1 ≤ D2 g i ∧ D2 g i ≤ dim (D2 a b * 100 + D2 c d) (D2 e f)) && tmB (znT l)) := by
  unfold stB
  rw [tm_long ha hb hc]
  have h0 : dayB (a :: b :: c :: d :: 45 :: e :: f :: 45 :: g :: i :: s :: l) = false := by
    unfold dayB dayS; rw [decide_eq_false (by simp)]; rfl
  have h1 : (a :: b :: c :: d :: 45 :: e :: f :: 45 :: g :: i :: s :: l).take 10 = [a, b, c, d, 45, e, f, 45, g, i] := rfl
  have h2 : bt (a :: b :: c :: d :: 45 :: e :: f :: 45 :: g :: i :: s :: l) 10 = s.toNat := rfl
  have h3 : (a :: b :: c :: d :: 45 :: e :: f :: 45 :: g :: i :: s :: l).drop 11 = l := rfl
  rw [h0, h1, h2, h3, day_let ha hb hc hd he hf hg hi, decide_eq_true hs, decide_eq_true (show 10 < (a :: b :: c :: d :: 45 :: e :: f :: 45 :: g :: i :: s :: l).length by simp)]; simp
theorem zn_z {a b c d e f : UInt8} : znT [a, b, 58, c, d, 58, e, f, 90] = [a, b, 58, c, d, 58, e, f] := by
  unfold znT; rw [if_pos ⟨by simp, rfl⟩]; rfl
theorem zn_no {a b c d e f : UInt8} (hf : dgI f = true) : znT [a, b, 58, c, d, 58, e, f] = [a, b, 58, c, d, 58, e, f] := by
  have h1 := dg_get hf
  unfold znT
  rw [if_neg (fun k => by have k2 := k.2; unfold znB at k2; have : (f.toNat = 90 ∨ f.toNat = 122) := of_decide_eq_true k2; omega), if_neg (fun k => by
    unfold zoB at k
    simp only [Bool.and_eq_true] at k
    have : ((58 : UInt8).toNat = 43 ∨ (58 : UInt8).toNat = 45) := of_decide_eq_true k.1.2
    exact absurd this (by decide))]
theorem ck2 {a b c d : UInt8} (ha : dgI a = true) (hb : dgI b = true) (hc : dgI c = true) (hd : dgI d = true) : ckS (spl 58 [a, b, 58, c, d]) [24, 60] = (decide (D2 a b < 24) && decide (D2 c d < 60)) := by
  rw [spl_2 ha hb, spl_e hc hd, ckS, ckS, ckS, tw_two ha hb, tw_two hc hd, Bool.and_true]
theorem tm_off {a b c d e f o p : UInt8} (ha : dgI a = true) (hb : dgI b = true) (hc : dgI c = true) (hd : dgI d = true) (he : dgI e = true) (hf : dgI f = true) (ho : dgI o = true) (hp : dgI p = true) : tmB (znT [a, b, 58, c, d, 58, e, f, 43, o, p, 58, 51, 48]) = ((decide (D2 a b < 24) && (decide (D2 c d < 60) && decide (D2 e f < 61))) && decide (D2 o p < 24)) := by
  have hz : zoB [a, b, 58, c, d, 58, e, f, 43, o, p, 58, 51, 48] = decide (D2 o p < 24) := by
    unfold zoB
    show (decide (6 ≤ 14) && decide (((43 : UInt8).toNat = 43) ∨ ((43 : UInt8).toNat = 45)) && ckS (spl 58 [o, p, 58, 51, 48]) [24, 60]) = _
    rw [ck2 ho hp (by decide) (by decide)]
    have : decide (D2 51 48 < 60) = true := by decide
    rw [this]; simp
  have hn : znB [a, b, 58, c, d, 58, e, f, 43, o, p, 58, 51, 48] = false := rfl
  unfold znT
  rw [hn, if_neg (by simp), hz]
  by_cases h : D2 o p < 24
  · rw [decide_eq_true h, if_pos rfl]
    show tmB [a, b, 58, c, d, 58, e, f] = _
    rw [tm_plain (six ha hb hc hd he hf), ck3 ha hb hc hd he hf, Bool.and_true]
  · rw [decide_eq_false h, if_neg (by decide), Bool.and_false]
    have h46 : ∀ x ∈ [a, b, 58, c, d, 58, e, f] ++ [43, o, p, 58, 51, 48], neB 46 x = true := by
      intro x hx
      rcases List.mem_append.1 hx with hx | hx
      · exact six ha hb hc hd he hf x hx
      · simp only [List.mem_cons, List.not_mem_nil, or_false] at hx
        rcases hx with rfl | rfl | rfl | rfl | rfl | rfl
        · decide
        · exact dg46 ho
        · exact dg46 hp
        · decide
        · decide
        · decide
    rw [tm_plain (l := [a, b, 58, c, d, 58, e, f, 43, o, p, 58, 51, 48]) h46]
    have e1 : spl 58 [e, f, 43, o, p, 58, 51, 48] = [[e, f, 43, o, p], [51, 48]] :=
      spl_c (dg58 he) (spl_c (dg58 hf) (spl_c (by decide) (spl_c (dg58 ho) (spl_c (dg58 hp) (spl_x 58 [51, 48])))))
    rw [spl_2 ha hb, spl_2 hc hd, e1, ckS, ckS, ckS, tw_len (l := [e, f, 43, o, p]) (by simp)]; simp
end Go.Proofs.YtiafcbmmadikcaaGreatDoor
