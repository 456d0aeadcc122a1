/- Plain mathematics of lines and columns: line ends counted, a line's beginning, the last line's beginning. -/
import Derived.Test.YtkhjahpkbjafaaaGreatDoorPMathUtf
import Derived.Lib.Bytealg
import Derived.Lib.LastIndexByte
import Derived.Test.YtkhjahpkbjafaaaGreatDoorPLexDoc
namespace Go.Proofs.YtkhjahpkbjafaaaGreatDoor
open Go.RowKit

theorem tkOk_more (a : UInt8) (t m : List UInt8) (h : tkOk a t = true) : tkOk a (t ++ m) = true ∧ (t ++ m).take (begN a.toNat - 1) = t.take (begN a.toNat - 1) := by
  unfold tkOk at h ⊢
  simp only [Bool.and_eq_true, decide_eq_true_eq] at h ⊢
  obtain ⟨⟨⟨h1, h2⟩, h3⟩, h4⟩ := h
  have e : (t ++ m).take (begN a.toNat - 1) = t.take (begN a.toNat - 1) := by
    rw [List.take_append_of_le_length (by omega)]
  rw [e]
  exact ⟨⟨⟨⟨h1, by simp; omega⟩, h3⟩, h4⟩, rfl⟩
/-- a letter at the head of a text is the letter at the head of any longer one -/
theorem tkN_more (l m : List UInt8) (h : tkN l ≠ 0) : tkN (l ++ m) = tkN l := by
  cases l with
  | nil => exact absurd rfl h
  | cons a t =>
    by_cases hk : tkOk a t = true
    · have h2 := (tkOk_more a t m hk).1
      simp only [List.cons_append, tkN, hk, h2, if_true]
    · exact absurd (by simp only [tkN]; rw [if_neg hk]) h
theorem vlk_has (l : List UInt8) : vgo l (vlk l) = false ∧ ∀ j < vlk l, vgo l j = true := by
  have h := least_has (vgo l) l.length 0 (by
    have := pos_ge l (0 + l.length)
    unfold vgo
    rw [decide_eq_false (by omega)]; rfl)
  exact ⟨h.1, fun j hj => h.2.1 j (Nat.zero_le _) hj⟩
theorem vld_of (l : List UInt8) (h : pos l (vlk l) = l.length) : ∀ j < cnt l, tkN (l.drop (pos l j)) ≠ 0 := by
  intro j hj
  rw [← at_cnt l _ h] at hj
  have := (vlk_has l).2 j hj
  unfold vgo at this
  simp only [Bool.and_eq_true, decide_eq_true_eq] at this
  exact this.2
theorem cnt_le (l : List UInt8) : cnt l ≤ l.length := by
  have h := pos_ge l (cnt l)
  rw [(cnt_has l).1] at h; exact h
theorem vld_mk (l : List UInt8) (h : ∀ j < cnt l, tkN (l.drop (pos l j)) ≠ 0) : pos l (vlk l) = l.length := by
  have hc := cnt_has l
  have e : cnt l = vlk l := vlk_eq l (cnt l) (by unfold vgo; rw [hc.1, decide_eq_false (Nat.lt_irrefl _)]; rfl)
    (fun j hj => by unfold vgo; rw [decide_eq_true (hc.2 j hj), decide_eq_true (h j hj)]; rfl) (cnt_le l)
  rw [← e]; exact hc.1
end Go.Proofs.YtkhjahpkbjafaaaGreatDoor
namespace Go.Proofs.YtkhjahpkbjafaaaGreatDoor
open Go.RowKit

def ub (n : Int) : UInt8 := UInt8.ofNat n.toNat
def okb (n : Int) : Prop := 0 ≤ n ∧ n < 256
theorem ub_nat (n : Int) (h : okb n) : (ub n).toNat = n.toNat := by
  unfold ub okb at *
  rw [UInt8.toNat_ofNat']
  omega
/-- the four forms of a letter's bytes -/
theorem enc_forms (r : Int) (h : goodB r = true) :
    (0 ≤ r ∧ r < 128 ∧ encI r = [r]) ∨ (128 ≤ r ∧ r < 2048 ∧ encI r = [192 + r / 64, 128 + r % 64])
    ∨ (2048 ≤ r ∧ r < 65536 ∧ encI r = [224 + r / 4096, 128 + r / 64 % 64, 128 + r % 64])
    ∨ (65536 ≤ r ∧ r ≤ 1114111 ∧ encI r = [240 + r / 262144, 128 + r / 4096 % 64, 128 + r / 64 % 64, 128 + r % 64]) := by
  have hr := of_decide_eq_true h
  unfold encI
  by_cases h1 : r < 128
  · exact Or.inl ⟨by omega, h1, by rw [if_pos h1]⟩
  · by_cases h2 : r < 2048
    · exact Or.inr (Or.inl ⟨by omega, h2, by rw [if_neg h1, if_pos h2]⟩)
    · by_cases h3 : r < 65536
      · exact Or.inr (Or.inr (Or.inl ⟨by omega, h3, by rw [if_neg h1, if_neg h2, if_pos h3]⟩))
      · exact Or.inr (Or.inr (Or.inr ⟨by omega, by omega, by rw [if_neg h1, if_neg h2, if_neg h3]⟩))
theorem enc_bytes (r : Int) (h : goodB r = true) : ∀ x ∈ encI r, okb x := by
  intro x hx
  rcases enc_forms r h with ⟨h1, h2, e⟩ | ⟨h1, h2, e⟩ | ⟨h1, h2, e⟩ | ⟨h1, h2, e⟩
  all_goals
    rw [e] at hx
    simp only [List.mem_cons, List.not_mem_nil, or_false] at hx
    unfold okb
    omega
theorem enc_good (r : Int) (h : goodB r = true) : enc r = encI r := by unfold enc; rw [h]; rfl
theorem str_enc (r : Int) (h : goodB r = true) : (strOfNums (enc r)).toList = (encI r).map ub := by
  rw [ByteArray.toList_eq, strOfNums_data, enc_good r h]; rfl
end Go.Proofs.YtkhjahpkbjafaaaGreatDoor
namespace Go.Proofs.YtkhjahpkbjafaaaGreatDoor
open Go.RowKit

theorem tk_yes_of (a : UInt8) (t : List UInt8) (F n : Nat) (hn : begN a.toNat = n) (h0 : n ≠ 0) (hl : n ≤ t.length + 1) (hc : (t.take (n - 1)).all cont = true)
    (hF : fol (begR a.toNat) (t.take (n - 1)) = F) (hg : goodN F = true) (hw : wdN F = n) : tkR (a :: t) = F ∧ tkN (a :: t) = n := by
  have hk : tkOk a t = true := by
    unfold tkOk; rw [hn, hF, hc, hg, hw, decide_eq_true (show n ≠ 0 ∧ n ≤ t.length + 1 from ⟨h0, hl⟩)]; simp
  simp only [tkR, tkN, hk, if_true, hn, hF]
  exact ⟨trivial, trivial⟩
theorem tk_shrt (a : UInt8) (t : List UInt8) (h : t.length + 1 < begN a.toNat) : tkN (a :: t) = 0 := by
  have hk : tkOk a t = false := by unfold tkOk; rw [decide_eq_false (by omega)]; rfl
  simp only [tkN, hk]; rfl
theorem cont_ub (n : Int) (h1 : 128 ≤ n) (h2 : n < 192) : cont (ub n) = true := by
  unfold cont; rw [ub_nat n (by unfold okb; omega)]; exact decide_eq_true (by omega)
theorem beg_at {b n : Nat} (h : (n = 1 ∧ b < 128) ∨ (n = 2 ∧ 192 ≤ b ∧ b < 224) ∨ (n = 3 ∧ 224 ≤ b ∧ b < 240) ∨ (n = 4 ∧ 240 ≤ b ∧ b < 248)) : begN b = n := by
  unfold begN; (repeat' split) <;> omega
theorem begR_at {b n : Nat} (h : (n = b ∧ b < 128) ∨ (n = b - 192 ∧ 192 ≤ b ∧ b < 224) ∨ (n = b - 224 ∧ 224 ≤ b ∧ b < 240) ∨ (n = b - 240 ∧ 240 ≤ b ∧ b < 248)) : begR b = n := by
  unfold begR; (repeat' split) <;> omega
theorem tk_enc (r : Int) (h : goodB r = true) (m : List UInt8) : tkR ((encI r).map ub ++ m) = r.toNat ∧ tkN ((encI r).map ub ++ m) = (encI r).length ∧ tkN (((encI r).map ub).take ((encI r).length - 1)) = 0 := by
  have hr := of_decide_eq_true h
  have hgN : goodN r.toNat = true := by rw [← goodB_goodN, Int.toNat_of_nonneg hr.1]; exact h
  have ob := enc_bytes r h
  rcases enc_forms r h with ⟨h1, h2, e⟩ | ⟨h1, h2, e⟩ | ⟨h1, h2, e⟩ | ⟨h1, h2, e⟩
  all_goals
    rw [e] at ob ⊢
    simp only [List.mem_cons, List.not_mem_nil, or_false, forall_eq_or_imp, forall_eq] at ob
    simp only [List.map_cons, List.map_nil, List.cons_append, List.nil_append, List.length_cons, List.length_nil]
  · have hv := ub_nat r ob
    have hb : begN (ub r).toNat = 1 := beg_at (Or.inl ⟨rfl, by omega⟩)
    have hR : begR (ub r).toNat = r.toNat := begR_at (Or.inl ⟨by omega, by omega⟩)
    obtain ⟨q1, q2⟩ := tk_yes_of (ub r) m r.toNat 1 hb (by omega) (by omega) (by simp) (by rw [hR]; simp [fol]) hgN (by unfold wdN; rw [if_pos (by omega)])
    exact ⟨q1, q2, rfl⟩
  · have hv := ub_nat _ ob.1
    have hv2 := ub_nat _ ob.2
    have hb : begN (ub (192 + r / 64)).toNat = 2 := beg_at (Or.inr (Or.inl ⟨rfl, by omega, by omega⟩))
    have hR : begR (ub (192 + r / 64)).toNat = (r / 64).toNat := begR_at (Or.inr (Or.inl ⟨by omega, by omega, by omega⟩))
    obtain ⟨q1, q2⟩ := tk_yes_of (ub (192 + r / 64)) (ub (128 + r % 64) :: m) r.toNat 2 hb (by omega) (by simp) (by simp [cont_ub (128 + r % 64) (by omega) (by omega)]) (by rw [hR]; simp [fol, hv2]; omega) hgN (by unfold wdN; rw [if_neg (by omega), if_pos (by omega)])
    exact ⟨q1, q2, tk_shrt _ _ (by rw [hb]; simp)⟩
  · have hv := ub_nat _ ob.1
    have hv2 := ub_nat _ ob.2.1
    have hv3 := ub_nat _ ob.2.2
    have hb : begN (ub (224 + r / 4096)).toNat = 3 := beg_at (Or.inr (Or.inr (Or.inl ⟨rfl, by omega, by omega⟩)))
    have hR : begR (ub (224 + r / 4096)).toNat = (r / 4096).toNat := begR_at (Or.inr (Or.inr (Or.inl ⟨by omega, by omega, by omega⟩)))
    obtain ⟨q1, q2⟩ := tk_yes_of (ub (224 + r / 4096)) (ub (128 + r / 64 % 64) :: ub (128 + r % 64) :: m) r.toNat 3 hb (by omega) (by simp) (by simp [cont_ub (128 + r % 64) (by omega) (by omega), cont_ub (128 + r / 64 % 64) (by omega) (by omega)]) (by rw [hR]; simp [fol, hv2, hv3]; omega) hgN (by unfold wdN; rw [if_neg (by omega), if_neg (by omega), if_pos (by omega)])
    exact ⟨q1, q2, tk_shrt _ _ (by rw [hb]; simp)⟩
  · have hv := ub_nat _ ob.1
    have hv2 := ub_nat _ ob.2.1
    have hv3 := ub_nat _ ob.2.2.1
    have hv4 := ub_nat _ ob.2.2.2
    have hb : begN (ub (240 + r / 262144)).toNat = 4 := beg_at (Or.inr (Or.inr (Or.inr ⟨rfl, by omega, by omega⟩)))
    have hR : begR (ub (240 + r / 262144)).toNat = (r / 262144).toNat := begR_at (Or.inr (Or.inr (Or.inr ⟨by omega, by omega, by omega⟩)))
    obtain ⟨q1, q2⟩ := tk_yes_of (ub (240 + r / 262144)) (ub (128 + r / 4096 % 64) :: ub (128 + r / 64 % 64) :: ub (128 + r % 64) :: m) r.toNat 4 hb (by omega) (by simp) (by simp [cont_ub (128 + r % 64) (by omega) (by omega), cont_ub (128 + r / 64 % 64) (by omega) (by omega), cont_ub (128 + r / 4096 % 64) (by omega) (by omega)]) (by rw [hR]; simp [fol, hv2, hv3, hv4]; omega) hgN (by unfold wdN; rw [if_neg (by omega), if_neg (by omega), if_neg (by omega)])
    exact ⟨q1, q2, tk_shrt _ _ (by rw [hb]; simp)⟩
end Go.Proofs.YtkhjahpkbjafaaaGreatDoor
namespace Go.Proofs.YtkhjahpkbjafaaaGreatDoor
open Go.RowKit

theorem byte_no (b : UInt8) (h : ¬ b = 10) : ((b.toNat : Int) == 10) = false := by
  rw [beq_eq_false_iff_ne]; intro hc; apply h; apply UInt8.toNat_inj.1; show _ = 10; omega
/-- how many line ends -/
def nls (l : List UInt8) : Nat := l.count 10
/-- where the last line of the first k bytes begins -/
def bol (l : List UInt8) : Nat → Nat
  | 0 => 0
  | k + 1 => if l.getD k 0 = 10 then k + 1 else bol l k
theorem bol_le (l : List UInt8) : ∀ k, bol l k ≤ k
  | 0 => Nat.le_refl _
  | k + 1 => by have := bol_le l k; unfold bol; split <;> omega
theorem bol_no (l : List UInt8) (k : Nat) (h : ¬ l.getD k 0 = 10) : bol l (k + 1) = bol l k := by rw [bol, if_neg h]
theorem bol_yes (l : List UInt8) (k : Nat) (h : l.getD k 0 = 10) : bol l (k + 1) = k + 1 := by rw [bol, if_pos h]
/-- a text's last line's column, behind its last byte -/
def colOf (m : List UInt8) : Nat := cnt (m.drop (bol m m.length)) + 1
def linOf (m : List UInt8) : Nat := nls m + 1
theorem nls_le (l : List UInt8) : nls l ≤ l.length := List.count_le_length
/-- where the (j+1)-th line begins -/
def lineAt (l : List UInt8) (j : Nat) : Nat := least (fun p => decide (nls (l.take p) < j)) l.length 0
/-- p is where the (j+1)-th line begins -/
def LineAt (l : List UInt8) (j p : Nat) : Prop := nls (l.take p) = j ∧ p ≤ l.length ∧ (p = 0 ∨ l.getD (p - 1) 0 = 10)
/-- what Begin answers -/
def bgB (l : List UInt8) (n : Int) : Bool := decide (1 ≤ n ∧ n ≤ nls l + 1)
def bgP (l : List UInt8) (n : Int) : Int := if 1 ≤ n ∧ n ≤ nls l + 1 then (lineAt l (n - 1).toNat : Int) else 0
/-- a place drawn into a text -/
def clN (n : Nat) (a : Int) : Nat := (min (max a 0) (n : Int)).toNat
theorem clN_le (n : Nat) (a : Int) : clN n a ≤ n := by unfold clN; omega
end Go.Proofs.YtkhjahpkbjafaaaGreatDoor
namespace Go.Proofs.YtkhjahpkbjafaaaGreatDoor
open Go.RowKit

set_option maxHeartbeats 400000 in
theorem good_any (r : Int) (w : World) :
    Calls Tryz.prog 191 #[.int .i64 r] w fun e w' => e = .returned (.bool (goodB r)) ∧ w' = w := by
  go_enter Tryz.func191, Tryz.ntmps191
  go_wp2
  all_goals
    go_ret
    exact ⟨ret_bool (by unfold goodB; rw [Bool.eq_iff_iff]; simp; try omega), rfl⟩
end Go.Proofs.YtkhjahpkbjafaaaGreatDoor
namespace Go.Proofs.YtkhjahpkbjafaaaGreatDoor
open Go.RowKit

set_option maxHeartbeats 400000 in
theorem width_any (r : Int) (w : World) :
    Calls Tryz.prog 192 #[.int .i64 r] w fun e w' => e = .returned (.int .i64 (wdI r)) ∧ w' = w := by
  go_enter Tryz.func192, Tryz.ntmps192
  go_wp2
  all_goals
    go_ret
    exact ⟨ret_int (by unfold wdI; (repeat' split) <;> omega), rfl⟩
end Go.Proofs.YtkhjahpkbjafaaaGreatDoor
namespace Go.Proofs.YtkhjahpkbjafaaaGreatDoor
open Go.RowKit

set_option maxRecDepth 100000 in
set_option maxHeartbeats 400000 in
theorem begin_any (b : Nat) (hb : b < 256) (w : World) :
    Calls Tryz.prog 190 #[.int .u8 (b : Int)] w fun e w' => e = .returned (.tuple #[.int .i64 (begR b), .int .i64 (begN b)]) ∧ w' = w := by
  obtain ⟨t1, t2, t3, -⟩ := and_tests b hb
  obtain ⟨p1, p2, p3, -⟩ := and_parts b hb
  go_enter Tryz.func190, Tryz.ntmps190
  go_wp2
  all_goals
    go_ret2
    exact ⟨ret_two (by unfold begR; (repeat' split) <;> simp_all <;> omega) (by unfold begN; (repeat' split) <;> simp_all <;> omega), rfl⟩
end Go.Proofs.YtkhjahpkbjafaaaGreatDoor
namespace Go.Proofs.YtkhjahpkbjafaaaGreatDoor
open Go.RowKit

theorem take_none (s : ByteArray) (w : World) (h0 : s.size = 0) :
    Calls Tryz.prog 151 #[.string s] w fun e w' => e = .returned (.tuple #[.int .i64 (tkR s.data.toList), .int .i64 (tkN s.data.toList)]) ∧ w' = w := by
  have e : s.data.toList = [] := by
    have : s.data.toList.length = 0 := by simpa using h0
    exact List.length_eq_zero_iff.1 this
  rw [e]
  have hz : ((s.size : Int) == 0) = true := by simp [h0]
  clear e h0
  go_enter Tryz.func151, Tryz.ntmps151
  go_wp2
  go_ret2
  exact ⟨rfl, rfl⟩

theorem take_tests (F n : Nat) : ((goodN F && decide (wdN F = n)) = true → goodB (F : Int) = true ∧ (wdI (F : Int) != (n : Int)) = false)
    ∧ ((goodN F && decide (wdN F = n)) = false → goodB (F : Int) = false ∨ (goodB (F : Int) = true ∧ (wdI (F : Int) != (n : Int)) = true)) := by
  rw [goodB_goodN]
  have hw : wdI (F : Int) = (wdN F : Int) := wdI_wdN F
  rw [hw]
  cases goodN F <;> simp <;> omega

set_option maxRecDepth 100000 in
set_option maxHeartbeats 400000 in
theorem take_any (s : ByteArray) (w : World) (hs : s.size ≤ maxLen) (h0 : 0 < s.size) :
    Calls Tryz.prog 151 #[.string s] w fun e w' => e = .returned (.tuple #[.int .i64 (tkR s.data.toList), .int .i64 (tkN s.data.toList)]) ∧ w' = w := by
  unfold maxLen at hs
  have hb : s[0].toNat < 256 := s[0].toNat_lt
  have hz : ((s.size : Int) == 0) = false := by rw [beq_eq_false_iff_ne]; omega
  by_cases hn : begN s[0].toNat = 0 ∨ s.size < begN s[0].toNat
  · have hno : tkOk s[0] (s.data.toList.drop 1) = false := by
      rw [tkOk_of s h0]; rcases hn with h | h
      · simp [h]
      · have : ¬ begN s[0].toNat ≤ s.size := by omega
        simp [this]
    obtain ⟨e1, e2⟩ := tk_no s h0 hno
    rw [e1, e2]
    clear hno e1 e2
    by_cases hn1 : begN s[0].toNat = 0
    all_goals
      go_enter Tryz.func151, Tryz.ntmps151
      go_wp2_with (first | (go_at_call 190; go_must (refine (begin_any _ hb _).mono ?_; rintro e w' ⟨rfl, rfl⟩)))
      go_ret2
      exact ⟨rfl, rfl⟩
  · obtain ⟨hn1, hn2⟩ : begN s[0].toNat ≠ 0 ∧ begN s[0].toNat ≤ s.size := by omega
    have hn0 : (((begN s[0].toNat : Nat) : Int) == 0) = false := by simp; omega
    have hn4 := begN_le s[0].toNat
    clear hn
    go_enter Tryz.func151, Tryz.ntmps151
    go_wp2_with (first | (go_at_call 190; go_must (refine (begin_any _ hb _).mono ?_; rintro e w' ⟨rfl, rfl⟩)))
    go_loop [4, 6] (fun r i => ∃ k : Nat, 1 ≤ k ∧ k ≤ begN s[0].toNat ∧ i = .int .i64 k ∧ r = .int .i64 (fol (begR s[0].toNat) (rest s k)) ∧ (rest s k).all cont = true) (fun _ i => begN s[0].toNat - (intOf i).toNat)
    case atStart => exact ⟨1, by omega, by omega, rfl, by simp [rest, fol], by simp [rest]⟩
    case round =>
      obtain ⟨k, hk1, hk2, rfl, rfl, hall⟩ := hrel
      have hfs := fol_small s[0].toNat (rest s k) hall (by have := rest_len s k; omega)
      by_cases hlt : k < begN s[0].toNat
      · have hks : k < s.size := by omega
        have hcb := cont_test s[k]
        have hp := (and_parts s[k].toNat s[k].toNat_lt).2.2.2
        by_cases hc : cont s[k] = true
        · rw [hc] at hcb
          simp only [Bool.not_true] at hcb
          have HF := hid (fol_step s s[0].toNat k hk1 hks hc hfs)
          have HA := hid (all_step s k hk1 hks hc hall)
          go_wp2
          go_round
          case rel => exact ⟨k + 1, by omega, by omega, by go_num, by rw [HF.out], HA.out⟩
          case measure => simp [intOf]; omega
        · have hc' : cont s[k] = false := by simpa using hc
          rw [hc'] at hcb
          simp only [Bool.not_false] at hcb
          have hno : tkOk s[0] (s.data.toList.drop 1) = false := by
            rw [tkOk_of s h0, all_no s k _ hk1 hlt hks hc']; simp
          have E := hid (tk_no s h0 hno)
          clear hno hc hc'
          go_wp2
          go_ret2
          exact ⟨ret_two (by rw [E.out.1]; rfl) (by rw [E.out.2]; rfl), rfl⟩
      · obtain rfl : k = begN s[0].toNat := by omega
        have hok := tkOk_of s h0
        rw [hall, decide_eq_true (show begN s[0].toNat ≠ 0 ∧ begN s[0].toNat ≤ s.size by omega)] at hok
        have ht := take_tests (fol (begR s[0].toNat) (rest s (begN s[0].toNat))) (begN s[0].toNat)
        by_cases hyes : tkOk s[0] (s.data.toList.drop 1) = true
        · rw [hyes] at hok
          obtain ⟨hg, hw⟩ := ht.1 (by simpa using hok)
          have E := hid (tk_yes s h0 hyes)
          clear hok ht hyes
          go_wp2_with (first | (go_at_call 191; go_must (refine (good_any _ _).mono ?_; rintro e w' ⟨rfl, rfl⟩)) | (go_at_call 192; go_must (refine (width_any _ _).mono ?_; rintro e w' ⟨rfl, rfl⟩)))
          go_ret2
          exact ⟨ret_two (by rw [E.out.1]) (by rw [E.out.2]), rfl⟩
        · have hno : tkOk s[0] (s.data.toList.drop 1) = false := by simpa using hyes
          rw [hno] at hok
          have ht2 := ht.2 (by simpa using hok)
          have E := hid (tk_no s h0 hno)
          clear hok ht hyes hno
          rcases ht2 with hg | ⟨hg, hw⟩
          all_goals
            go_wp2_with (first | (go_at_call 191; go_must (refine (good_any _ _).mono ?_; rintro e w' ⟨rfl, rfl⟩)) | (go_at_call 192; go_must (refine (width_any _ _).mono ?_; rintro e w' ⟨rfl, rfl⟩)))
            go_ret2
            exact ⟨ret_two (by rw [E.out.1]; rfl) (by rw [E.out.2]; rfl), rfl⟩

theorem take_all (s : ByteArray) (w : World) (hs : s.size ≤ maxLen) :
    Calls Tryz.prog 151 #[.string s] w fun e w' => e = .returned (.tuple #[.int .i64 (tkR s.data.toList), .int .i64 (tkN s.data.toList)]) ∧ w' = w := by
  by_cases h : s.size = 0
  · exact take_none s w h
  · exact take_any s w hs (by omega)
theorem take_at (s : ByteArray) (p : Nat) (w : World) (hs : s.size ≤ maxLen) :
    Calls Tryz.prog 151 #[.string (s.extract p s.size)] w fun e w' => e = .returned (.tuple #[.int .i64 (tkR (s.data.toList.drop p)), .int .i64 (tkN (s.data.toList.drop p))]) ∧ w' = w := by
  have h := take_all (s.extract p s.size) w (cut_size s p hs)
  rw [drop_list] at h
  exact h
end Go.Proofs.YtkhjahpkbjafaaaGreatDoor
namespace Go.Proofs.YtkhjahpkbjafaaaGreatDoor
open Go.RowKit

set_option maxRecDepth 100000 in
set_option maxHeartbeats 400000 in
theorem valid_any (s : ByteArray) (w : World) (hs : s.size ≤ maxLen) :
    Calls Tryz.prog 141 #[.string s] w fun e w' => e = .returned (.tuple #[.int .i64 (pos s.data.toList (vlk s.data.toList)), .bool (decide (pos s.data.toList (vlk s.data.toList) = s.size))]) ∧ w' = w := by
  have HS := hid hs
  have HZ := hid (size_list s)
  unfold maxLen at hs
  go_enter Tryz.func141, Tryz.ntmps141
  go_wp2
  go_loop [4] (fun i => ∃ k : Nat, i = .int .i64 (pos s.data.toList k) ∧ pos s.data.toList k ≤ s.size ∧ ∀ j < k, vgo s.data.toList j = true) (fun i => s.size - (intOf i).toNat)
  case atStart => exact ⟨0, rfl, Nat.zero_le _, fun j hj => absurd hj (Nat.not_lt_zero j)⟩
  case round =>
    obtain ⟨k, rfl, hp, hj⟩ := hrel
    have hk := pos_ge s.data.toList k
    have HJ := hid hj
    clear hj
    have hz := HZ.out
    by_cases hlt : pos s.data.toList k < s.size
    · by_cases h0 : tkN (s.data.toList.drop (pos s.data.toList k)) = 0
      · have HC := hid (vlk_eq s.data.toList k (by simp [vgo, h0]) HJ.out (by omega))
        have h0' : (((tkN (s.data.toList.drop (pos s.data.toList k)) : Nat) : Int) == 0) = true := by rw [h0]; rfl
        clear hz h0
        go_wp2_with (first | (go_at_call 151; go_must (refine (take_at _ _ _ HS.out).mono ?_; rintro e w' ⟨rfl, rfl⟩)))
        go_ret2
        exact ⟨ret_ib (by rw [← HC.out]) (by rw [← HC.out, decide_eq_false (by omega)]), rfl⟩
      · have hn := pos_next s.data.toList k (by omega)
        have HV := hid (show vgo s.data.toList k = true by simp only [vgo, Bool.and_eq_true, decide_eq_true_eq]; exact ⟨by omega, h0⟩)
        have h0' : (((tkN (s.data.toList.drop (pos s.data.toList k)) : Nat) : Int) == 0) = false := by rw [beq_eq_false_iff_ne]; omega
        have hn' : pos s.data.toList k + tkN (s.data.toList.drop (pos s.data.toList k)) ≤ s.size := by simp only [pos, stp] at hn; omega
        have H0 := hid h0
        clear hz hn h0
        go_wp2_with (first | (go_at_call 151; go_must (refine (take_at _ _ _ HS.out).mono ?_; rintro e w' ⟨rfl, rfl⟩)))
        go_round
        case rel =>
          have h0 := H0.out
          refine ⟨k + 1, val_int (pos_succ' _ _ h0), by simp only [pos, stp]; omega, fun j hj => ?_⟩
          by_cases hjk : j = k
          · rw [hjk]; exact HV.out
          · exact HJ.out j (by omega)
        case measure => have h0 := H0.out; simp [intOf]; omega
    · have HC := hid (vlk_eq s.data.toList k (by simp [vgo]; omega) HJ.out (by omega))
      clear hz
      go_wp2
      go_ret2
      exact ⟨ret_ib (by rw [← HC.out]) (by rw [← HC.out, decide_eq_true (by omega)]), rfl⟩
end Go.Proofs.YtkhjahpkbjafaaaGreatDoor
