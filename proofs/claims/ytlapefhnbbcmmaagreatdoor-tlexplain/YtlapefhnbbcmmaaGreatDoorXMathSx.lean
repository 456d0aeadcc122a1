/- What TOML's strings say is letters. -/
import Derived.Test.YtlapefhnbbcmmaaGreatDoorXMathDecAll
import Derived.Lib.IndexAny
import Derived.Test.YtlapefhnbbcmmaaGreatDoorXBase
import Derived.Lib.MapLaws
import Derived.Test.YtlapefhnbbcmmaaGreatDoorXPlaceAll
import Derived.Test.YtlapefhnbbcmmaaGreatDoorXMathDn5
import Derived.Test.YtlapefhnbbcmmaaGreatDoorXTlM
/- Days and times written in digits: plain mathematics. -/
/- Plain mathematics of a number's row: with noughts for the digits behind e it has a number's form just if the row has. -/
/- Plain mathematics: the model's decoder and the letters that a text begins with. -/
namespace Go.Proofs.YtlapefhnbbcmmaaGreatDoor
open Go.RowKit

/-- no e -/
def notE (b : UInt8) : Bool := !(decide (b.toNat = 101) || decide (b.toNat = 69))
/-- nought for a digit -/
def zd (b : UInt8) : UInt8 := if isD b = true then 48 else b
/-- a row with noughts for the digits behind e -/
def wpow (l : List UInt8) : List UInt8 := l.takeWhile notE ++ (l.dropWhile notE).map zd
end Go.Proofs.YtlapefhnbbcmmaaGreatDoor
namespace Go.Proofs.YtlapefhnbbcmmaaGreatDoor
open Go.RowKit

theorem tkN_c (a : UInt8) (t : List UInt8) : tkN (a :: t) = if tkOk a t = true then begN a.toNat else 0 := rfl
theorem tkR_c (a : UInt8) (t : List UInt8) : tkR (a :: t) = if tkOk a t = true then fol (begR a.toNat) (t.take (begN a.toNat - 1)) else 0 := rfl
theorem tk_n1 {a : UInt8} {t : List UInt8} (h : a.toNat < 128) : tkN (a :: t) = 1 ∧ tkR (a :: t) = a.toNat := by
  have hb : begN a.toNat = 1 := by unfold begN; rw [if_pos h]
  have hr : begR a.toNat = a.toNat := by unfold begR; rw [if_pos h]
  have ok : tkOk a t = true := by
    unfold tkOk; rw [hb, hr]
    have hf : fol a.toNat (t.take (1 - 1)) = a.toNat := by simp [fol]
    rw [hf]
    have g1 : goodN a.toNat = true := by unfold goodN; exact decide_eq_true (by omega)
    have g2 : wdN a.toNat = 1 := by unfold wdN; rw [if_pos h]
    rw [g1, g2]; simp
  rw [tkN_c, tkR_c, if_pos ok, if_pos ok, hb, hr]
  simp [fol]
end Go.Proofs.YtlapefhnbbcmmaaGreatDoor
/- Letters in bytes, from the front: a text of letters is its first letter and a text of letters. -/
namespace Go.Proofs.YtlapefhnbbcmmaaGreatDoor
open Go.RowKit

/-- letters alone -/
def VL (l : List UInt8) : Prop := pos l (vlk l) = l.length
instance (l : List UInt8) : Decidable (VL l) := by unfold VL; exact inferInstance
theorem vl_nil : VL [] := rfl
/-- the first letter hangs on its own bytes alone -/
theorem tk_front {l m : List UInt8} (h : tkN l ≠ 0) (ht : l.take (tkN l) = m.take (tkN l)) : tkN m = tkN l := by
  cases l with
  | nil => exact absurd rfl h
  | cons a t =>
    have hn := tkN_c a t
    by_cases hok : tkOk a t = true
    · rw [if_pos hok] at hn
      rw [hn] at ht h ⊢
      obtain ⟨n, hb⟩ : ∃ n, begN a.toNat = n + 1 := ⟨begN a.toNat - 1, by omega⟩
      rw [hb] at ht
      cases m with
      | nil => simp at ht
      | cons b u =>
        simp only [List.take_succ_cons, List.cons.injEq] at ht
        obtain ⟨rfl, ht⟩ := ht
        rw [tkN_c]
        unfold tkOk at hok ⊢
        have e : begN a.toNat - 1 = n := by omega
        rw [e] at hok ⊢
        rw [← ht]
        simp only [Bool.and_eq_true, decide_eq_true_eq] at hok ⊢
        obtain ⟨⟨⟨h1, h2⟩, h3⟩, h4⟩ := hok
        have hl : n ≤ u.length := by
          have := congrArg List.length ht
          rw [List.length_take, List.length_take] at this; omega
        rw [if_pos ⟨⟨⟨h1, by omega⟩, h3⟩, h4⟩]
    · rw [if_neg hok] at hn; exact absurd hn h
theorem tk_take {l : List UInt8} (h : tkN l ≠ 0) : tkN (l.take (tkN l)) = tkN l := tk_front h (by rw [List.take_take]; simp)
theorem one_letter {a : List UInt8} (h : tkN a ≠ 0) (hl : tkN a = a.length) : cnt a = 1 ∧ ∀ j < cnt a, tkN (a.drop (pos a j)) ≠ 0 := by
  have hp : pos a 1 = a.length := by
    show pos a 0 + stp (a.drop (pos a 0)) = a.length
    show 0 + stp (a.drop 0) = a.length
    rw [List.drop_zero]; unfold stp; omega
  have hc := at_cnt a 1 hp
  refine ⟨hc.symm, fun j hj => ?_⟩
  obtain rfl : j = 0 := by omega
  show tkN (a.drop 0) ≠ 0
  rw [List.drop_zero]; exact h
theorem vl_behind {a m : List UInt8} (ha : ∀ j < cnt a, tkN (a.drop (pos a j)) ≠ 0) : VL (a ++ m) ↔ VL m := by
  constructor
  · intro h
    refine vld_mk m (fun i hi => ?_)
    have := vld_of _ h (cnt a + i) (by rw [cnt_join a m ha]; omega)
    rw [pos_join2 a m ha] at this
    have e2 : (a ++ m).drop (a.length + pos m i) = m.drop (pos m i) := by rw [List.drop_append]; simp
    rw [e2] at this; exact this
  · intro h
    exact vld_join a m ha (vld_of m h)
theorem vl_step {l : List UInt8} (hne : l ≠ []) : VL l ↔ tkN l ≠ 0 ∧ VL (l.drop (tkN l)) := by
  have key : tkN l ≠ 0 → (VL l ↔ VL (l.drop (tkN l))) := fun h => by
    have h1 := tk_take h
    have hl : (l.take (tkN l)).length = tkN l := by rw [List.length_take]; have := tkN_le l; omega
    have h2 := one_letter (a := l.take (tkN l)) (by rw [h1]; exact h) (by rw [h1, hl])
    have h3 := vl_behind (m := l.drop (tkN l)) h2.2
    rw [List.take_append_drop] at h3
    exact h3
  constructor
  · intro h
    have h0 : tkN l ≠ 0 := by
      have := vld_of l h 0 (below_cnt l 0 (by show 0 < l.length; exact List.length_pos_iff.2 hne))
      have e : l.drop (pos l 0) = l := List.drop_zero
      rw [e] at this; exact this
    exact ⟨h0, (key h0).1 h⟩
  · rintro ⟨h0, h⟩
    exact (key h0).2 h
theorem vlb_ascii {c : UInt8} {l : List UInt8} (h : c.toNat < 128) : VL (c :: l) ↔ VL l := by
  have h1 := (tk_n1 (t := l) h).1
  rw [vl_step (by simp), h1]
  simp
/-- each quote twice -/
def dq : List UInt8 → List UInt8
  | [] => []
  | c :: l => if c = 34 then 34 :: 34 :: dq l else c :: dq l
end Go.Proofs.YtlapefhnbbcmmaaGreatDoor
namespace Go.Proofs.YtlapefhnbbcmmaaGreatDoor

theorem vl_cat {a b : List UInt8} (ha : VL a) (hb : VL b) : VL (a ++ b) := (vl_behind (vld_of a ha)).2 hb
theorem vl_asc {l : List UInt8} (h : ∀ b ∈ l, b.toNat < 128) : VL l := by
  induction l with
  | nil => exact vl_nil
  | cons a t ih => exact (vlb_ascii (h a (by simp))).2 (ih fun b hb => h b (List.mem_cons_of_mem _ hb))
theorem ut_one {l : List UInt8} (h : tkN l ≠ 0) : VL (l.take (tkN l)) := by
  have e := tk_take h
  have hne : l.take (tkN l) ≠ [] := fun k => by rw [k] at e; exact h (e.symm.trans (by rfl))
  rw [vl_step hne, e]
  refine ⟨h, ?_⟩
  rw [List.drop_eq_nil_of_le (List.length_take_le _ _)]
  exact vl_nil
theorem ut_ltr {r : Int} (h : goodB r = true) : VL (ltr r) := by
  have hs : (strOfNums (enc r)).data.toList = (encI r).map ub := by rw [← ByteArray.toList_eq]; exact str_enc r h
  have k := (tk_enc r h []).2.1
  rw [List.append_nil] at k
  unfold ltr
  rw [hs]
  have hlen : 0 < (encI r).length := by unfold encI; (repeat' split) <;> simp
  rw [vl_step (by intro e; have := congrArg List.length e; rw [List.length_map, List.length_nil] at this; omega), k]
  refine ⟨by omega, ?_⟩
  rw [List.drop_eq_nil_of_le (by simp)]
  exact vl_nil
theorem ut_nm (toml : Bool) (b : Nat) : nmV toml b < 128 ∨ nmV toml b = 256 := by
  unfold nmV; (repeat' split) <;> simp
theorem ut_escU {l : List UInt8} {n : Nat} : VL (escU true l n).1 := by
  unfold escU
  split
  · rename_i h; exact ut_ltr h.2
  · split
    · rename_i h2; exact absurd h2.1 (by decide)
    · exact vl_nil
theorem ut_escP (l : List UInt8) : VL (escP true l).1 := by
  unfold escP
  split
  · rename_i h1
    refine vl_asc (fun b hb => ?_)
    rw [List.mem_singleton.1 hb]
    have h2 : nmV true (bt l 1) < 128 := (ut_nm true (bt l 1)).resolve_right (by omega)
    rw [UInt8.toNat_ofNat']
    omega
  · split
    · exact ut_escU
    · split
      · exact ut_escU
      · exact vl_nil
theorem ut_op {l : List UInt8} (h : 0 < (opP l).2) : VL (opP l).1 := by
  unfold opP at h ⊢
  split
  · exact vl_nil
  · rename_i k
    rw [if_neg k] at h
    exact ut_one (by unfold plP at h; simp only at h; omega)
theorem ut_oe {l : List UInt8} (h : 0 < (oeP l).2) : VL (oeP l).1 := by
  unfold oeP at h ⊢
  split
  · exact ut_escP l
  · rename_i k
    rw [if_neg k] at h
    exact ut_op h
theorem ut_ln (l : List UInt8) : VL (l.take (lnE l)) := by
  refine vl_asc fun b hb => ?_
  unfold lnE at hb
  rcases l with _ | ⟨x, _ | ⟨y, t⟩⟩
  · simp at hb
  · rw [bt_cons] at hb
    split at hb
    · rename_i h; simp at hb; rw [hb]; omega
    · split at hb
      · rename_i h; simp at hb; rw [hb]; omega
      · simp at hb
  · rw [bt_cons, bt_succ, bt_cons] at hb
    split at hb
    · rename_i h; simp at hb; rw [hb]; omega
    · split at hb
      · rename_i h; simp at hb; rcases hb with hb | hb <;> rw [hb] <;> omega
      · simp at hb
theorem ut_mp {l : List UInt8} (h : 0 < (mpP l).2) : VL (mpP l).1 := by
  unfold mpP at h ⊢
  split
  · exact ut_ln l
  · rename_i k
    rw [if_neg k] at h
    exact ut_op h
theorem ut_me {l : List UInt8} (h : 0 < (meP l).2) : VL (meP l).1 := by
  unfold meP at h ⊢
  split
  · split
    · exact vl_nil
    · exact ut_escP l
  · rename_i k
    rw [if_neg k] at h
    exact ut_mp h
theorem ut_oE (q : Nat) (l : List UInt8) : VL (oE q l).1 := by unfold oE; split <;> exact vl_nil
theorem ut_mE {q : Nat} (hq : q < 128) (l : List UInt8) : VL (mE q l).1 := by
  unfold mE
  split
  · exact vl_nil
  · refine vl_asc fun b hb => ?_
    have h5 : qN q l ≤ 5 := by
      unfold qN run
      have := (List.takeWhile_prefix (fun b : UInt8 => decide (b.toNat = q)) (l := l.take 5)).length_le
      have h2 := List.length_take_le 5 l
      omega
    have hm : b ∈ (l.take 5).take (qN q l) := by
      have : l.take (qN q l - 3) = (l.take 5).take (qN q l - 3) := by rw [List.take_take, Nat.min_eq_left (by omega)]
      rw [this] at hb
      have h3 : ((l.take 5).take (qN q l)).take (qN q l - 3) = (l.take 5).take (qN q l - 3) := by rw [List.take_take, Nat.min_eq_left (by omega)]
      rw [← h3] at hb
      exact List.mem_of_mem_take hb
    have := nn_all (fun b : UInt8 => decide (b.toNat = q)) (l.take 5) b hm
    simp only [decide_eq_true_eq] at this
    omega
theorem ut_rd {E P : List UInt8 → List UInt8 × Nat} (hE : ∀ l, VL (E l).1) (hP : ∀ l, 0 < (P l).2 → VL (P l).1) {T : List UInt8} : ∀ (f p : Nat) (acc : List UInt8), (rd E P T f p acc).2.2 < 0 → VL acc → VL (rd E P T f p acc).1
  | 0, p, acc, h, _ => by rw [rd] at h; simp only at h; omega
  | f + 1, p, acc, h, ha => by
    rw [rd] at h ⊢
    by_cases k1 : T.length ≤ p
    · rw [if_pos k1] at h; simp only at h; omega
    · rw [if_neg k1] at h ⊢
      by_cases k2 : 0 < (E (T.drop p)).2
      · rw [if_pos k2] at h ⊢
        exact vl_cat ha (hE _)
      · rw [if_neg k2] at h ⊢
        by_cases k3 : (P (T.drop p)).2 = 0
        · rw [if_pos k3] at h; simp only at h; omega
        · rw [if_neg k3] at h ⊢
          exact ut_rd hE hP f _ _ h (vl_cat ha (hP _ (by omega)))
/-- what a string of TOML says is letters -/
theorem ut_valid (T : List UInt8) (a : Nat) (h : (unqT T (a : Int)).2.2 < 0) : VL (unqT T (a : Int)).1 := by
  unfold unqT at h ⊢
  split
  · rename_i k; rw [if_pos k] at h
    exact ut_rd (ut_mE (by decide)) (fun l => ut_me) _ _ _ h vl_nil
  · rename_i k; rw [if_neg k] at h
    split
    · rename_i k; rw [if_pos k] at h
      exact ut_rd (ut_mE (by decide)) (fun l => ut_mp) _ _ _ h vl_nil
    · rename_i k; rw [if_neg k] at h
      split
      · rename_i k; rw [if_pos k] at h
        exact ut_rd (ut_oE 34) (fun l => ut_oe) _ _ _ h vl_nil
      · rename_i k; rw [if_neg k] at h
        split
        · rename_i k; rw [if_pos k] at h
          exact ut_rd (ut_oE 39) (fun l => ut_op) _ _ _ h vl_nil
        · exact vl_nil
end Go.Proofs.YtlapefhnbbcmmaaGreatDoor
namespace Go.Proofs.YtlapefhnbbcmmaaGreatDoor

def D2 (a b : UInt8) : Nat := (a.toNat - 48) * 10 + (b.toNat - 48)
theorem dg58 {a : UInt8} (h : dgI a = true) : neB 58 a = true := by unfold dgI at h; unfold neB; simp at h ⊢; omega
theorem dg46 {a : UInt8} (h : dgI a = true) : neB 46 a = true := by unfold dgI at h; unfold neB; simp at h ⊢; omega
theorem dg_get {a : UInt8} (h : dgI a = true) : 48 ≤ a.toNat ∧ a.toNat ≤ 57 := by unfold dgI at h; simpa using h
theorem dg2_c (a b : UInt8) (l : List UInt8) : dg2 (a :: b :: l) 0 = D2 a b := rfl
theorem tw_two {a b : UInt8} (ha : dgI a = true) (hb : dgI b = true) (n : Nat) : twoB [a, b] n = decide (D2 a b < n) := by
  unfold twoB is2
  rw [dg_at, dg_up, dg_at, ha, hb, dg2_c]; rfl
theorem spl_c {c b : UInt8} {l h : List UInt8} {t : List (List UInt8)} (hb : neB c b = true) (e : spl c l = h :: t) : spl c (b :: l) = (b :: h) :: t := by rw [spl, if_pos hb, e]
theorem spl_x (c : UInt8) (l : List UInt8) : spl c (c :: l) = [] :: spl c l := by rw [spl, neB_self, if_neg (by decide)]
theorem spl_2 {a b : UInt8} {l : List UInt8} (ha : dgI a = true) (hb : dgI b = true) : spl 58 (a :: b :: 58 :: l) = [a, b] :: spl 58 l := spl_c (dg58 ha) (spl_c (dg58 hb) (spl_x 58 l))
theorem spl_e {a b : UInt8} (ha : dgI a = true) (hb : dgI b = true) : spl 58 [a, b] = [[a, b]] := spl_c (dg58 ha) (spl_c (dg58 hb) rfl)
theorem ck3 {a b c d e f : UInt8} (ha : dgI a = true) (hb : dgI b = true) (hc : dgI c = true) (hd : dgI d = true) (he : dgI e = true) (hf : dgI f = true) : ckS (spl 58 [a, b, 58, c, d, 58, e, f]) [24, 60, 61] = (decide (D2 a b < 24) && (decide (D2 c d < 60) && decide (D2 e f < 61))) := by
  rw [spl_2 ha hb, spl_2 hc hd, spl_e he hf, ckS, ckS, ckS, ckS, tw_two ha hb, tw_two hc hd, tw_two he hf, Bool.and_true]
theorem run46 {l m : List UInt8} (h : ∀ x ∈ l, neB 46 x = true) : run (neB 46) (l ++ m) = l.length + run (neB 46) m := by
  induction l with
  | nil => simp
  | cons b l ih =>
    rw [List.cons_append, run_cpos (h b (List.mem_cons_self ..)), ih (fun x hx => h x (List.mem_cons_of_mem _ hx)), List.length_cons]; omega
theorem tm_plain {l : List UInt8} (h : ∀ x ∈ l, neB 46 x = true) : tmB l = ckS (spl 58 l) [24, 60, 61] := by
  have e : run (neB 46) l = l.length := run_full h
  unfold tmB ckH ckD
  rw [e, List.take_of_length_le (Nat.le_refl _), decide_eq_false (Nat.lt_irrefl _)]; simp
/-- the parts of a clock -/
theorem six {a b c d e f : UInt8} (ha : dgI a = true) (hb : dgI b = true) (hc : dgI c = true) (hd : dgI d = true) (he : dgI e = true) (hf : dgI f = true) : ∀ x ∈ [a, b, 58, c, d, 58, e, f], neB 46 x = true := by
  intro x hx
  simp only [List.mem_cons, List.not_mem_nil, or_false] at hx
  rcases hx with rfl | rfl | rfl | rfl | rfl | rfl | rfl | rfl
  · exact dg46 ha
  · exact dg46 hb
  · decide
  · exact dg46 hc
  · exact dg46 hd
  · decide
  · exact dg46 he
  · exact dg46 hf
end Go.Proofs.YtlapefhnbbcmmaaGreatDoor
