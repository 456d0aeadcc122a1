/- Plain mathematics of lines and columns: line ends counted, a line's beginning, the last line's beginning. -/
import Derived.Test.YtlapefhnbbcmmaaGreatDoorXBase
import Derived.Lib.Bytealg
import Derived.Lib.LastIndexByte
import Derived.Lib.Walk
import Derived.Test.YtlapefhnbbcmmaaGreatDoorXShelf
import Derived.Test.YtlapefhnbbcmmaaGreatDoorXRefOne
import Derived.Deep.QuietTactic
import Derived.BigQuiet
namespace Go.Proofs.YtlapefhnbbcmmaaGreatDoor
open Go.RowKit

theorem tkOk_more (a : UInt8) (t m : List UInt8) (h : tkOk a t = true) : tkOk a (t ++ m) = true ∧ (t ++ m).take (begN a.toNat - 1) = t.take (begN a.toNat - 1) := by
  unfold tkOk at h ⊢
  simp only [Bool.and_eq_true, decide_eq_true_eq] at h ⊢
  obtain ⟨⟨⟨h1, h2⟩, h3⟩, h4⟩ := h
  have e : (t ++ m).take (begN a.toNat - 1) = t.take (begN a.toNat - 1) := by
    rw [List.take_append_of_le_length (by omega)]
  rw [e]
  exact ⟨⟨⟨⟨h1, by simp; omega⟩, h3⟩, h4⟩, rfl⟩
/-- a letter at the head of a text is the letter at the head of any longer one -/
theorem tkN_more (l m : List UInt8) (h : tkN l ≠ 0) : tkN (l ++ m) = tkN l := by
  cases l with
  | nil => exact absurd rfl h
  | cons a t =>
    by_cases hk : tkOk a t = true
    · have h2 := (tkOk_more a t m hk).1
      simp only [List.cons_append, tkN, hk, h2, if_true]
    · exact absurd (by simp only [tkN]; rw [if_neg hk]) h
theorem stp_more (l m : List UInt8) (h : tkN l ≠ 0) : stp (l ++ m) = stp l := by unfold stp; rw [tkN_more l m h]
theorem vlk_has (l : List UInt8) : vgo l (vlk l) = false ∧ ∀ j < vlk l, vgo l j = true := by
  have h := least_has (vgo l) l.length 0 (by
    have := pos_ge l (0 + l.length)
    unfold vgo
    rw [decide_eq_false (by omega)]; rfl)
  exact ⟨h.1, fun j hj => h.2.1 j (Nat.zero_le _) hj⟩
theorem vld_of (l : List UInt8) (h : pos l (vlk l) = l.length) : ∀ j < cnt l, tkN (l.drop (pos l j)) ≠ 0 := by
  intro j hj
  rw [← at_cnt l _ h] at hj
  have := (vlk_has l).2 j hj
  unfold vgo at this
  simp only [Bool.and_eq_true, decide_eq_true_eq] at this
  exact this.2
theorem cnt_le (l : List UInt8) : cnt l ≤ l.length := by
  have h := pos_ge l (cnt l)
  rw [(cnt_has l).1] at h; exact h
theorem vld_mk (l : List UInt8) (h : ∀ j < cnt l, tkN (l.drop (pos l j)) ≠ 0) : pos l (vlk l) = l.length := by
  have hc := cnt_has l
  have e : cnt l = vlk l := vlk_eq l (cnt l) (by unfold vgo; rw [hc.1, decide_eq_false (Nat.lt_irrefl _)]; rfl)
    (fun j hj => by unfold vgo; rw [decide_eq_true (hc.2 j hj), decide_eq_true (h j hj)]; rfl) (cnt_le l)
  rw [← e]; exact hc.1
theorem pos_join1 (l m : List UInt8) (h : ∀ j < cnt l, tkN (l.drop (pos l j)) ≠ 0) : ∀ j ≤ cnt l, pos (l ++ m) j = pos l j := by
  intro j
  induction j with
  | zero => intro _; rfl
  | succ j ih =>
    intro hj
    have e := ih (by omega)
    have hp := (cnt_has l).2 j (by omega)
    simp only [pos]
    rw [e, List.drop_append_of_le_length (by omega), stp_more _ _ (h j (by omega))]
theorem pos_join2 (l m : List UInt8) (h : ∀ j < cnt l, tkN (l.drop (pos l j)) ≠ 0) : ∀ j, pos (l ++ m) (cnt l + j) = l.length + pos m j := by
  intro j
  induction j with
  | zero => simp only [Nat.add_zero, pos]; rw [pos_join1 l m h _ (Nat.le_refl _)]; exact (cnt_has l).1
  | succ j ih =>
    have e : cnt l + (j + 1) = (cnt l + j) + 1 := by omega
    rw [e]
    simp only [pos]
    rw [ih]
    have e2 : (l ++ m).drop (l.length + pos m j) = m.drop (pos m j) := by rw [List.drop_append]; simp
    rw [e2]; omega
theorem cnt_join (l m : List UInt8) (h : ∀ j < cnt l, tkN (l.drop (pos l j)) ≠ 0) : cnt (l ++ m) = cnt l + cnt m :=
  (at_cnt (l ++ m) _ (by rw [pos_join2 l m h, (cnt_has m).1]; simp)).symm
theorem vld_join (l m : List UInt8) (h : ∀ j < cnt l, tkN (l.drop (pos l j)) ≠ 0) (g : ∀ j < cnt m, tkN (m.drop (pos m j)) ≠ 0) : pos (l ++ m) (vlk (l ++ m)) = (l ++ m).length := by
  refine vld_mk _ (fun j hj => ?_)
  rw [cnt_join l m h] at hj
  by_cases h1 : j < cnt l
  · have hp := (cnt_has l).2 j h1
    rw [pos_join1 l m h j (by omega), List.drop_append_of_le_length (by omega), tkN_more _ _ (h j h1)]
    exact h j h1
  · obtain ⟨i, rfl⟩ : ∃ i, j = cnt l + i := ⟨j - cnt l, by omega⟩
    rw [pos_join2 l m h]
    have e2 : (l ++ m).drop (l.length + pos m i) = m.drop (pos m i) := by rw [List.drop_append]; simp
    rw [e2]; exact g i (by omega)
end Go.Proofs.YtlapefhnbbcmmaaGreatDoor
namespace Go.Proofs.YtlapefhnbbcmmaaGreatDoor
open Go.RowKit

def ub (n : Int) : UInt8 := UInt8.ofNat n.toNat
def okb (n : Int) : Prop := 0 ≤ n ∧ n < 256
theorem ub_nat (n : Int) (h : okb n) : (ub n).toNat = n.toNat := by
  unfold ub okb at *
  rw [UInt8.toNat_ofNat']
  omega
/-- the four forms of a letter's bytes -/
theorem enc_forms (r : Int) (h : goodB r = true) :
    (0 ≤ r ∧ r < 128 ∧ encI r = [r]) ∨ (128 ≤ r ∧ r < 2048 ∧ encI r = [192 + r / 64, 128 + r % 64])
    ∨ (2048 ≤ r ∧ r < 65536 ∧ encI r = [224 + r / 4096, 128 + r / 64 % 64, 128 + r % 64])
    ∨ (65536 ≤ r ∧ r ≤ 1114111 ∧ encI r = [240 + r / 262144, 128 + r / 4096 % 64, 128 + r / 64 % 64, 128 + r % 64]) := by
  have hr := of_decide_eq_true h
  unfold encI
  by_cases h1 : r < 128
  · exact Or.inl ⟨by omega, h1, by rw [if_pos h1]⟩
  · by_cases h2 : r < 2048
    · exact Or.inr (Or.inl ⟨by omega, h2, by rw [if_neg h1, if_pos h2]⟩)
    · by_cases h3 : r < 65536
      · exact Or.inr (Or.inr (Or.inl ⟨by omega, h3, by rw [if_neg h1, if_neg h2, if_pos h3]⟩))
      · exact Or.inr (Or.inr (Or.inr ⟨by omega, by omega, by rw [if_neg h1, if_neg h2, if_neg h3]⟩))
theorem enc_bytes (r : Int) (h : goodB r = true) : ∀ x ∈ encI r, okb x := by
  intro x hx
  rcases enc_forms r h with ⟨h1, h2, e⟩ | ⟨h1, h2, e⟩ | ⟨h1, h2, e⟩ | ⟨h1, h2, e⟩
  all_goals
    rw [e] at hx
    simp only [List.mem_cons, List.not_mem_nil, or_false] at hx
    unfold okb
    omega
theorem enc_good (r : Int) (h : goodB r = true) : enc r = encI r := by unfold enc; rw [h]; rfl
theorem str_enc (r : Int) (h : goodB r = true) : (strOfNums (enc r)).toList = (encI r).map ub := by
  rw [ByteArray.toList_eq, strOfNums_data, enc_good r h]; rfl
end Go.Proofs.YtlapefhnbbcmmaaGreatDoor
namespace Go.Proofs.YtlapefhnbbcmmaaGreatDoor
open Go.RowKit

theorem tk_yes_of (a : UInt8) (t : List UInt8) (F n : Nat) (hn : begN a.toNat = n) (h0 : n ≠ 0) (hl : n ≤ t.length + 1) (hc : (t.take (n - 1)).all cont = true)
    (hF : fol (begR a.toNat) (t.take (n - 1)) = F) (hg : goodN F = true) (hw : wdN F = n) : tkR (a :: t) = F ∧ tkN (a :: t) = n := by
  have hk : tkOk a t = true := by
    unfold tkOk; rw [hn, hF, hc, hg, hw, decide_eq_true (show n ≠ 0 ∧ n ≤ t.length + 1 from ⟨h0, hl⟩)]; simp
  simp only [tkR, tkN, hk, if_true, hn, hF]
  exact ⟨trivial, trivial⟩
theorem tk_shrt (a : UInt8) (t : List UInt8) (h : t.length + 1 < begN a.toNat) : tkN (a :: t) = 0 := by
  have hk : tkOk a t = false := by unfold tkOk; rw [decide_eq_false (by omega)]; rfl
  simp only [tkN, hk]; rfl
theorem cont_ub (n : Int) (h1 : 128 ≤ n) (h2 : n < 192) : cont (ub n) = true := by
  unfold cont; rw [ub_nat n (by unfold okb; omega)]; exact decide_eq_true (by omega)
theorem beg_at {b n : Nat} (h : (n = 1 ∧ b < 128) ∨ (n = 2 ∧ 192 ≤ b ∧ b < 224) ∨ (n = 3 ∧ 224 ≤ b ∧ b < 240) ∨ (n = 4 ∧ 240 ≤ b ∧ b < 248)) : begN b = n := by
  unfold begN; (repeat' split) <;> omega
theorem begR_at {b n : Nat} (h : (n = b ∧ b < 128) ∨ (n = b - 192 ∧ 192 ≤ b ∧ b < 224) ∨ (n = b - 224 ∧ 224 ≤ b ∧ b < 240) ∨ (n = b - 240 ∧ 240 ≤ b ∧ b < 248)) : begR b = n := by
  unfold begR; (repeat' split) <;> omega
theorem tk_enc (r : Int) (h : goodB r = true) (m : List UInt8) : tkR ((encI r).map ub ++ m) = r.toNat ∧ tkN ((encI r).map ub ++ m) = (encI r).length ∧ tkN (((encI r).map ub).take ((encI r).length - 1)) = 0 := by
  have hr := of_decide_eq_true h
  have hgN : goodN r.toNat = true := by rw [← goodB_goodN, Int.toNat_of_nonneg hr.1]; exact h
  have ob := enc_bytes r h
  rcases enc_forms r h with ⟨h1, h2, e⟩ | ⟨h1, h2, e⟩ | ⟨h1, h2, e⟩ | ⟨h1, h2, e⟩
  all_goals
    rw [e] at ob ⊢
    simp only [List.mem_cons, List.not_mem_nil, or_false, forall_eq_or_imp, forall_eq] at ob
    simp only [List.map_cons, List.map_nil, List.cons_append, List.nil_append, List.length_cons, List.length_nil]
  · have hv := ub_nat r ob
    have hb : begN (ub r).toNat = 1 := beg_at (Or.inl ⟨rfl, by omega⟩)
    have hR : begR (ub r).toNat = r.toNat := begR_at (Or.inl ⟨by omega, by omega⟩)
    obtain ⟨q1, q2⟩ := tk_yes_of (ub r) m r.toNat 1 hb (by omega) (by omega) (by simp) (by rw [hR]; simp [fol]) hgN (by unfold wdN; rw [if_pos (by omega)])
    exact ⟨q1, q2, rfl⟩
  · have hv := ub_nat _ ob.1
    have hv2 := ub_nat _ ob.2
    have hb : begN (ub (192 + r / 64)).toNat = 2 := beg_at (Or.inr (Or.inl ⟨rfl, by omega, by omega⟩))
    have hR : begR (ub (192 + r / 64)).toNat = (r / 64).toNat := begR_at (Or.inr (Or.inl ⟨by omega, by omega, by omega⟩))
    obtain ⟨q1, q2⟩ := tk_yes_of (ub (192 + r / 64)) (ub (128 + r % 64) :: m) r.toNat 2 hb (by omega) (by simp) (by simp [cont_ub (128 + r % 64) (by omega) (by omega)]) (by rw [hR]; simp [fol, hv2]; omega) hgN (by unfold wdN; rw [if_neg (by omega), if_pos (by omega)])
    exact ⟨q1, q2, tk_shrt _ _ (by rw [hb]; simp)⟩
  · have hv := ub_nat _ ob.1
    have hv2 := ub_nat _ ob.2.1
    have hv3 := ub_nat _ ob.2.2
    have hb : begN (ub (224 + r / 4096)).toNat = 3 := beg_at (Or.inr (Or.inr (Or.inl ⟨rfl, by omega, by omega⟩)))
    have hR : begR (ub (224 + r / 4096)).toNat = (r / 4096).toNat := begR_at (Or.inr (Or.inr (Or.inl ⟨by omega, by omega, by omega⟩)))
    obtain ⟨q1, q2⟩ := tk_yes_of (ub (224 + r / 4096)) (ub (128 + r / 64 % 64) :: ub (128 + r % 64) :: m) r.toNat 3 hb (by omega) (by simp) (by simp [cont_ub (128 + r % 64) (by omega) (by omega), cont_ub (128 + r / 64 % 64) (by omega) (by omega)]) (by rw [hR]; simp [fol, hv2, hv3]; omega) hgN (by unfold wdN; rw [if_neg (by omega), if_neg (by omega), if_pos (by omega)])
    exact ⟨q1, q2, tk_shrt _ _ (by rw [hb]; simp)⟩
  · have hv := ub_nat _ ob.1
    have hv2 := ub_nat _ ob.2.1
    have hv3 := ub_nat _ ob.2.2.1
    have hv4 := ub_nat _ ob.2.2.2
    have hb : begN (ub (240 + r / 262144)).toNat = 4 := beg_at (Or.inr (Or.inr (Or.inr ⟨rfl, by omega, by omega⟩)))
    have hR : begR (ub (240 + r / 262144)).toNat = (r / 262144).toNat := begR_at (Or.inr (Or.inr (Or.inr ⟨by omega, by omega, by omega⟩)))
    obtain ⟨q1, q2⟩ := tk_yes_of (ub (240 + r / 262144)) (ub (128 + r / 4096 % 64) :: ub (128 + r / 64 % 64) :: ub (128 + r % 64) :: m) r.toNat 4 hb (by omega) (by simp) (by simp [cont_ub (128 + r % 64) (by omega) (by omega), cont_ub (128 + r / 64 % 64) (by omega) (by omega), cont_ub (128 + r / 4096 % 64) (by omega) (by omega)]) (by rw [hR]; simp [fol, hv2, hv3, hv4]; omega) hgN (by unfold wdN; rw [if_neg (by omega), if_neg (by omega), if_neg (by omega)])
    exact ⟨q1, q2, tk_shrt _ _ (by rw [hb]; simp)⟩
end Go.Proofs.YtlapefhnbbcmmaaGreatDoor
namespace Go.Proofs.YtlapefhnbbcmmaaGreatDoor
open Go.RowKit

/-- how many line ends -/
def nls (l : List UInt8) : Nat := l.count 10
/-- where the last line of the first k bytes begins -/
def bol (l : List UInt8) : Nat → Nat
  | 0 => 0
  | k + 1 => if l.getD k 0 = 10 then k + 1 else bol l k
/-- a text's last line's column, behind its last byte -/
def colOf (m : List UInt8) : Nat := cnt (m.drop (bol m m.length)) + 1
def linOf (m : List UInt8) : Nat := nls m + 1
/-- where the (j+1)-th line begins -/
def lineAt (l : List UInt8) (j : Nat) : Nat := least (fun p => decide (nls (l.take p) < j)) l.length 0
/-- p is where the (j+1)-th line begins -/
def LineAt (l : List UInt8) (j p : Nat) : Prop := nls (l.take p) = j ∧ p ≤ l.length ∧ (p = 0 ∨ l.getD (p - 1) 0 = 10)
/-- what Begin answers -/
def bgB (l : List UInt8) (n : Int) : Bool := decide (1 ≤ n ∧ n ≤ nls l + 1)
def bgP (l : List UInt8) (n : Int) : Int := if 1 ≤ n ∧ n ≤ nls l + 1 then (lineAt l (n - 1).toNat : Int) else 0
/-- a place drawn into a text -/
def clN (n : Nat) (a : Int) : Nat := (min (max a 0) (n : Int)).toNat
end Go.Proofs.YtlapefhnbbcmmaaGreatDoor
/- The library's searches, walked at the text of one line end: strings.Index, strings.Count, strings.LastIndex. -/
/- Package place, walked: clamp, Lines, Begin; and the document's own clamp. -/
/- Package place, walked: Of, Fault; and the document's own reckoning of both. -/
/- The document's own reckoning of places, walked: Of, Fault. -/
namespace Go.Proofs.YtlapefhnbbcmmaaGreatDoor
open Go.RowKit

end Go.Proofs.YtlapefhnbbcmmaaGreatDoor
namespace Go.Proofs.YtlapefhnbbcmmaaGreatDoor
open Go.RowKit

end Go.Proofs.YtlapefhnbbcmmaaGreatDoor
namespace Go.Proofs.YtlapefhnbbcmmaaGreatDoor
open Go.RowKit

/-- where a text's first k letters begin, as values -/
def startsV (l : List UInt8) (k : Nat) : List Value := (List.range k).map (fun j => Value.int .i64 (pos l j))
end Go.Proofs.YtlapefhnbbcmmaaGreatDoor
namespace Go.Proofs.YtlapefhnbbcmmaaGreatDoor
open Go.RowKit

theorem take_list (s : ByteArray) (k : Nat) : (s.extract 0 k).data.toList = s.data.toList.take k := by simp
/-- the line and the column of a place -/
def ofL (t : ByteArray) (a : Int) : Nat := linOf (t.data.toList.take (clN t.size a))
def ofC (t : ByteArray) (a : Int) : Nat := colOf (t.data.toList.take (clN t.size a))
theorem below_drewN {B : Nat} {a w : World} (h : Below B a w) (n : Nat) : Below B a (w.drewN n) := h.trans ⟨rfl, rfl, rfl, Nat.le_refl _, fun _ _ => rfl⟩
theorem keeps {W V : World} (h : Below W.heap.size W V) : (∀ b o, b < W.heap.size → V.cell? ⟨b, o, none⟩ = W.cell? ⟨b, o, none⟩) ∧ ∀ b o, b < W.heap.size → V.frozen? ⟨b, o, none⟩ = W.frozen? ⟨b, o, none⟩ :=
  ⟨fun _ _ g => h.cell g, fun _ _ g => h.frozen g⟩
theorem onto {w a b : World} (h : Below w.heap.size w a) (k : Below a.heap.size a b) : Below w.heap.size w b := h.trans (k.mono h.size)
/-- a fault, as a value -/
def faultV (t : ByteArray) (a e : Int) : Value := .agg #[.int .i64 e, .int .i64 (clN t.size a), .int .i64 (ofL t a), .int .i64 (ofC t a)]
end Go.Proofs.YtlapefhnbbcmmaaGreatDoor
namespace Go.Proofs.YtlapefhnbbcmmaaGreatDoor
open Go.RowKit

theorem part_list (s : ByteArray) (i k : Nat) : (s.extract i k).data.toList = (s.data.toList.take k).drop i := by
  simp [List.drop_take]
end Go.Proofs.YtlapefhnbbcmmaaGreatDoor
