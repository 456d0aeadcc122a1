/- Plain mathematics of lines and columns: line ends counted, a line's beginning, the last line's beginning. -/
import Derived.Test.YtkhjahpkbjafaaaGreatDoorUMathUtf
import Derived.Lib.Bytealg
import Derived.Lib.LastIndexByte
import Derived.Test.YtkhjahpkbjafaaaGreatDoorURefOne
import Derived.Lib.Walk
import Derived.Test.YtkhjahpkbjafaaaGreatDoorUUtfMore
import Derived.Deep.QuietTactic
import Derived.BigQuiet
namespace Go.Proofs.YtkhjahpkbjafaaaGreatDoor
open Go.RowKit

theorem tkOk_more (a : UInt8) (t m : List UInt8) (h : tkOk a t = true) : tkOk a (t ++ m) = true ∧ (t ++ m).take (begN a.toNat - 1) = t.take (begN a.toNat - 1) := by
  unfold tkOk at h ⊢
  simp only [Bool.and_eq_true, decide_eq_true_eq] at h ⊢
  obtain ⟨⟨⟨h1, h2⟩, h3⟩, h4⟩ := h
  have e : (t ++ m).take (begN a.toNat - 1) = t.take (begN a.toNat - 1) := by
    rw [List.take_append_of_le_length (by omega)]
  rw [e]
  exact ⟨⟨⟨⟨h1, by simp; omega⟩, h3⟩, h4⟩, rfl⟩
/-- a letter at the head of a text is the letter at the head of any longer one -/
theorem tkN_more (l m : List UInt8) (h : tkN l ≠ 0) : tkN (l ++ m) = tkN l := by
  cases l with
  | nil => exact absurd rfl h
  | cons a t =>
    by_cases hk : tkOk a t = true
    · have h2 := (tkOk_more a t m hk).1
      simp only [List.cons_append, tkN, hk, h2, if_true]
    · exact absurd (by simp only [tkN]; rw [if_neg hk]) h
theorem vlk_has (l : List UInt8) : vgo l (vlk l) = false ∧ ∀ j < vlk l, vgo l j = true := by
  have h := least_has (vgo l) l.length 0 (by
    have := pos_ge l (0 + l.length)
    unfold vgo
    rw [decide_eq_false (by omega)]; rfl)
  exact ⟨h.1, fun j hj => h.2.1 j (Nat.zero_le _) hj⟩
theorem vld_of (l : List UInt8) (h : pos l (vlk l) = l.length) : ∀ j < cnt l, tkN (l.drop (pos l j)) ≠ 0 := by
  intro j hj
  rw [← at_cnt l _ h] at hj
  have := (vlk_has l).2 j hj
  unfold vgo at this
  simp only [Bool.and_eq_true, decide_eq_true_eq] at this
  exact this.2
theorem cnt_le (l : List UInt8) : cnt l ≤ l.length := by
  have h := pos_ge l (cnt l)
  rw [(cnt_has l).1] at h; exact h
theorem vld_mk (l : List UInt8) (h : ∀ j < cnt l, tkN (l.drop (pos l j)) ≠ 0) : pos l (vlk l) = l.length := by
  have hc := cnt_has l
  have e : cnt l = vlk l := vlk_eq l (cnt l) (by unfold vgo; rw [hc.1, decide_eq_false (Nat.lt_irrefl _)]; rfl)
    (fun j hj => by unfold vgo; rw [decide_eq_true (hc.2 j hj), decide_eq_true (h j hj)]; rfl) (cnt_le l)
  rw [← e]; exact hc.1
end Go.Proofs.YtkhjahpkbjafaaaGreatDoor
namespace Go.Proofs.YtkhjahpkbjafaaaGreatDoor
open Go.RowKit

def ub (n : Int) : UInt8 := UInt8.ofNat n.toNat
def okb (n : Int) : Prop := 0 ≤ n ∧ n < 256
theorem ub_nat (n : Int) (h : okb n) : (ub n).toNat = n.toNat := by
  unfold ub okb at *
  rw [UInt8.toNat_ofNat']
  omega
/-- the four forms of a letter's bytes -/
theorem enc_forms (r : Int) (h : goodB r = true) :
    (0 ≤ r ∧ r < 128 ∧ encI r = [r]) ∨ (128 ≤ r ∧ r < 2048 ∧ encI r = [192 + r / 64, 128 + r % 64])
    ∨ (2048 ≤ r ∧ r < 65536 ∧ encI r = [224 + r / 4096, 128 + r / 64 % 64, 128 + r % 64])
    ∨ (65536 ≤ r ∧ r ≤ 1114111 ∧ encI r = [240 + r / 262144, 128 + r / 4096 % 64, 128 + r / 64 % 64, 128 + r % 64]) := by
  have hr := of_decide_eq_true h
  unfold encI
  by_cases h1 : r < 128
  · exact Or.inl ⟨by omega, h1, by rw [if_pos h1]⟩
  · by_cases h2 : r < 2048
    · exact Or.inr (Or.inl ⟨by omega, h2, by rw [if_neg h1, if_pos h2]⟩)
    · by_cases h3 : r < 65536
      · exact Or.inr (Or.inr (Or.inl ⟨by omega, h3, by rw [if_neg h1, if_neg h2, if_pos h3]⟩))
      · exact Or.inr (Or.inr (Or.inr ⟨by omega, by omega, by rw [if_neg h1, if_neg h2, if_neg h3]⟩))
theorem enc_bytes (r : Int) (h : goodB r = true) : ∀ x ∈ encI r, okb x := by
  intro x hx
  rcases enc_forms r h with ⟨h1, h2, e⟩ | ⟨h1, h2, e⟩ | ⟨h1, h2, e⟩ | ⟨h1, h2, e⟩
  all_goals
    rw [e] at hx
    simp only [List.mem_cons, List.not_mem_nil, or_false] at hx
    unfold okb
    omega
theorem enc_good (r : Int) (h : goodB r = true) : enc r = encI r := by unfold enc; rw [h]; rfl
theorem str_enc (r : Int) (h : goodB r = true) : (strOfNums (enc r)).toList = (encI r).map ub := by
  rw [ByteArray.toList_eq, strOfNums_data, enc_good r h]; rfl
end Go.Proofs.YtkhjahpkbjafaaaGreatDoor
namespace Go.Proofs.YtkhjahpkbjafaaaGreatDoor
open Go.RowKit

theorem tk_yes_of (a : UInt8) (t : List UInt8) (F n : Nat) (hn : begN a.toNat = n) (h0 : n ≠ 0) (hl : n ≤ t.length + 1) (hc : (t.take (n - 1)).all cont = true)
    (hF : fol (begR a.toNat) (t.take (n - 1)) = F) (hg : goodN F = true) (hw : wdN F = n) : tkR (a :: t) = F ∧ tkN (a :: t) = n := by
  have hk : tkOk a t = true := by
    unfold tkOk; rw [hn, hF, hc, hg, hw, decide_eq_true (show n ≠ 0 ∧ n ≤ t.length + 1 from ⟨h0, hl⟩)]; simp
  simp only [tkR, tkN, hk, if_true, hn, hF]
  exact ⟨trivial, trivial⟩
theorem tk_shrt (a : UInt8) (t : List UInt8) (h : t.length + 1 < begN a.toNat) : tkN (a :: t) = 0 := by
  have hk : tkOk a t = false := by unfold tkOk; rw [decide_eq_false (by omega)]; rfl
  simp only [tkN, hk]; rfl
theorem cont_ub (n : Int) (h1 : 128 ≤ n) (h2 : n < 192) : cont (ub n) = true := by
  unfold cont; rw [ub_nat n (by unfold okb; omega)]; exact decide_eq_true (by omega)
theorem beg_at {b n : Nat} (h : (n = 1 ∧ b < 128) ∨ (n = 2 ∧ 192 ≤ b ∧ b < 224) ∨ (n = 3 ∧ 224 ≤ b ∧ b < 240) ∨ (n = 4 ∧ 240 ≤ b ∧ b < 248)) : begN b = n := by
  unfold begN; (repeat' split) <;> omega
theorem begR_at {b n : Nat} (h : (n = b ∧ b < 128) ∨ (n = b - 192 ∧ 192 ≤ b ∧ b < 224) ∨ (n = b - 224 ∧ 224 ≤ b ∧ b < 240) ∨ (n = b - 240 ∧ 240 ≤ b ∧ b < 248)) : begR b = n := by
  unfold begR; (repeat' split) <;> omega
theorem tk_enc (r : Int) (h : goodB r = true) (m : List UInt8) : tkR ((encI r).map ub ++ m) = r.toNat ∧ tkN ((encI r).map ub ++ m) = (encI r).length ∧ tkN (((encI r).map ub).take ((encI r).length - 1)) = 0 := by
  have hr := of_decide_eq_true h
  have hgN : goodN r.toNat = true := by rw [← goodB_goodN, Int.toNat_of_nonneg hr.1]; exact h
  have ob := enc_bytes r h
  rcases enc_forms r h with ⟨h1, h2, e⟩ | ⟨h1, h2, e⟩ | ⟨h1, h2, e⟩ | ⟨h1, h2, e⟩
  all_goals
    rw [e] at ob ⊢
    simp only [List.mem_cons, List.not_mem_nil, or_false, forall_eq_or_imp, forall_eq] at ob
    simp only [List.map_cons, List.map_nil, List.cons_append, List.nil_append, List.length_cons, List.length_nil]
  · have hv := ub_nat r ob
    have hb : begN (ub r).toNat = 1 := beg_at (Or.inl ⟨rfl, by omega⟩)
    have hR : begR (ub r).toNat = r.toNat := begR_at (Or.inl ⟨by omega, by omega⟩)
    obtain ⟨q1, q2⟩ := tk_yes_of (ub r) m r.toNat 1 hb (by omega) (by omega) (by simp) (by rw [hR]; simp [fol]) hgN (by unfold wdN; rw [if_pos (by omega)])
    exact ⟨q1, q2, rfl⟩
  · have hv := ub_nat _ ob.1
    have hv2 := ub_nat _ ob.2
    have hb : begN (ub (192 + r / 64)).toNat = 2 := beg_at (Or.inr (Or.inl ⟨rfl, by omega, by omega⟩))
    have hR : begR (ub (192 + r / 64)).toNat = (r / 64).toNat := begR_at (Or.inr (Or.inl ⟨by omega, by omega, by omega⟩))
    obtain ⟨q1, q2⟩ := tk_yes_of (ub (192 + r / 64)) (ub (128 + r % 64) :: m) r.toNat 2 hb (by omega) (by simp) (by simp [cont_ub (128 + r % 64) (by omega) (by omega)]) (by rw [hR]; simp [fol, hv2]; omega) hgN (by unfold wdN; rw [if_neg (by omega), if_pos (by omega)])
    exact ⟨q1, q2, tk_shrt _ _ (by rw [hb]; simp)⟩
  · have hv := ub_nat _ ob.1
    have hv2 := ub_nat _ ob.2.1
    have hv3 := ub_nat _ ob.2.2
    have hb : begN (ub (224 + r / 4096)).toNat = 3 := beg_at (Or.inr (Or.inr (Or.inl ⟨rfl, by omega, by omega⟩)))
    have hR : begR (ub (224 + r / 4096)).toNat = (r / 4096).toNat := begR_at (Or.inr (Or.inr (Or.inl ⟨by omega, by omega, by omega⟩)))
    obtain ⟨q1, q2⟩ := tk_yes_of (ub (224 + r / 4096)) (ub (128 + r / 64 % 64) :: ub (128 + r % 64) :: m) r.toNat 3 hb (by omega) (by simp) (by simp [cont_ub (128 + r % 64) (by omega) (by omega), cont_ub (128 + r / 64 % 64) (by omega) (by omega)]) (by rw [hR]; simp [fol, hv2, hv3]; omega) hgN (by unfold wdN; rw [if_neg (by omega), if_neg (by omega), if_pos (by omega)])
    exact ⟨q1, q2, tk_shrt _ _ (by rw [hb]; simp)⟩
  · have hv := ub_nat _ ob.1
    have hv2 := ub_nat _ ob.2.1
    have hv3 := ub_nat _ ob.2.2.1
    have hv4 := ub_nat _ ob.2.2.2
    have hb : begN (ub (240 + r / 262144)).toNat = 4 := beg_at (Or.inr (Or.inr (Or.inr ⟨rfl, by omega, by omega⟩)))
    have hR : begR (ub (240 + r / 262144)).toNat = (r / 262144).toNat := begR_at (Or.inr (Or.inr (Or.inr ⟨by omega, by omega, by omega⟩)))
    obtain ⟨q1, q2⟩ := tk_yes_of (ub (240 + r / 262144)) (ub (128 + r / 4096 % 64) :: ub (128 + r / 64 % 64) :: ub (128 + r % 64) :: m) r.toNat 4 hb (by omega) (by simp) (by simp [cont_ub (128 + r % 64) (by omega) (by omega), cont_ub (128 + r / 64 % 64) (by omega) (by omega), cont_ub (128 + r / 4096 % 64) (by omega) (by omega)]) (by rw [hR]; simp [fol, hv2, hv3, hv4]; omega) hgN (by unfold wdN; rw [if_neg (by omega), if_neg (by omega), if_neg (by omega)])
    exact ⟨q1, q2, tk_shrt _ _ (by rw [hb]; simp)⟩
end Go.Proofs.YtkhjahpkbjafaaaGreatDoor
namespace Go.Proofs.YtkhjahpkbjafaaaGreatDoor
open Go.RowKit

theorem byte_no (b : UInt8) (h : ¬ b = 10) : ((b.toNat : Int) == 10) = false := by
  rw [beq_eq_false_iff_ne]; intro hc; apply h; apply UInt8.toNat_inj.1; show _ = 10; omega
/-- how many line ends -/
def nls (l : List UInt8) : Nat := l.count 10
/-- where the last line of the first k bytes begins -/
def bol (l : List UInt8) : Nat → Nat
  | 0 => 0
  | k + 1 => if l.getD k 0 = 10 then k + 1 else bol l k
theorem bol_le (l : List UInt8) : ∀ k, bol l k ≤ k
  | 0 => Nat.le_refl _
  | k + 1 => by have := bol_le l k; unfold bol; split <;> omega
theorem bol_no (l : List UInt8) (k : Nat) (h : ¬ l.getD k 0 = 10) : bol l (k + 1) = bol l k := by rw [bol, if_neg h]
theorem bol_yes (l : List UInt8) (k : Nat) (h : l.getD k 0 = 10) : bol l (k + 1) = k + 1 := by rw [bol, if_pos h]
/-- a text's last line's column, behind its last byte -/
def colOf (m : List UInt8) : Nat := cnt (m.drop (bol m m.length)) + 1
def linOf (m : List UInt8) : Nat := nls m + 1
theorem nls_le (l : List UInt8) : nls l ≤ l.length := List.count_le_length
/-- where the (j+1)-th line begins -/
def lineAt (l : List UInt8) (j : Nat) : Nat := least (fun p => decide (nls (l.take p) < j)) l.length 0
/-- p is where the (j+1)-th line begins -/
def LineAt (l : List UInt8) (j p : Nat) : Prop := nls (l.take p) = j ∧ p ≤ l.length ∧ (p = 0 ∨ l.getD (p - 1) 0 = 10)
/-- what Begin answers -/
def bgB (l : List UInt8) (n : Int) : Bool := decide (1 ≤ n ∧ n ≤ nls l + 1)
def bgP (l : List UInt8) (n : Int) : Int := if 1 ≤ n ∧ n ≤ nls l + 1 then (lineAt l (n - 1).toNat : Int) else 0
/-- a place drawn into a text -/
def clN (n : Nat) (a : Int) : Nat := (min (max a 0) (n : Int)).toNat
theorem clN_le (n : Nat) (a : Int) : clN n a ≤ n := by unfold clN; omega
end Go.Proofs.YtkhjahpkbjafaaaGreatDoor
/- The library's searches, walked at the text of one line end: strings.Index, strings.Count, strings.LastIndex. -/
/- Package place, walked: clamp, Lines, Begin; and the document's own clamp. -/
/- Package place, walked: Of, Fault; and the document's own reckoning of both. -/
/- The document's own reckoning of places, walked: Of, Fault. -/
namespace Go.Proofs.YtkhjahpkbjafaaaGreatDoor
open Go.RowKit

set_option maxRecDepth 100000 in
set_option maxHeartbeats 400000 in
theorem ct_any (s : ByteArray) (w : World) :
    Calls Tryz.prog 132 #[.string s, .string ⟨#[10]⟩] w fun e w' => e = .returned (.int .i64 (nls s.data.toList)) ∧ w' = w := by
  go_enter Tryz.func132, Tryz.ntmps132
  go_wp2
  rw [run_callFunc_extern Tryz.func160 (by kernel_rfl) (by kernel_rfl) (by kernel_rfl) (e := Extern.BytealgCount.count) (by kernel_rfl), Lib.run_countString]
  simp only [Result.andThen]
  rw [Oper.upon_value]
  go_wp2
  go_ret
  exact ⟨rfl, rfl⟩
set_option maxRecDepth 100000 in
set_option maxHeartbeats 400000 in
theorem lastByte_any (s : ByteArray) (w : World) (hs : s.size ≤ maxLen) :
    Calls Tryz.prog 130 #[.string s, .int .u8 10] w fun e w' => e = .returned (.int .i64 ((bol s.data.toList s.size : Int) - 1)) ∧ w' = w := by
  unfold maxLen at hs
  go_enter Tryz.func130, Tryz.ntmps130
  go_wp2
  go_loop [5] (fun i => ∃ k : Nat, k ≤ s.size ∧ i = .int .i64 ((k : Int) - 1) ∧ Hid (bol s.data.toList s.size = bol s.data.toList k)) (fun i => (intOf i + 1).toNat)
  case atStart => exact ⟨s.size, Nat.le_refl _, rfl, rfl⟩
  case round =>
    obtain ⟨k, hk, rfl, hh⟩ := hrel
    rcases k with _ | k
    · go_wp2
      go_ret
      exact ⟨ret_int (by rw [hh.out]; rfl), rfl⟩
    · have E := hid (getD_at s k hk)
      have e1 : ((k + 1 : Nat) : Int) - 1 = (k : Int) := by omega
      rw [e1]
      clear e1
      by_cases hb : s[k] = 10
      · have hb1 : ((s[k].toNat : Int) == 10) = true := by rw [hb]; rfl
        have HB := hid hb
        clear hb
        go_wp2
        go_ret
        exact ⟨ret_int (by rw [hh.out, bol_yes _ _ (by rw [E.out]; exact HB.out)]; omega), rfl⟩
      · have hb1 : ((s[k].toNat : Int) == 10) = false := byte_no _ hb
        have HB := hid hb
        clear hb
        go_wp2
        go_round
        case rel => exact ⟨k, by omega, rfl, hh.out.trans (bol_no _ _ (by rw [E.out]; exact HB.out))⟩
        case measure => simp [intOf]
set_option maxRecDepth 100000 in
set_option maxHeartbeats 400000 in
theorem last_any (s : ByteArray) (w : World) (hs : s.size ≤ maxLen) :
    Calls Tryz.prog 102 #[.string s, .string ⟨#[10]⟩] w fun e w' => e = .returned (.int .i64 ((bol s.data.toList s.size : Int) - 1)) ∧ w' = w := by
  go_enter Tryz.func102, Tryz.ntmps102
  go_wp2_with (go_at_call 130; go_must (refine (lastByte_any _ _ hs).mono ?_; rintro e w' ⟨rfl, rfl⟩))
  go_ret
  exact ⟨rfl, rfl⟩
end Go.Proofs.YtkhjahpkbjafaaaGreatDoor
namespace Go.Proofs.YtkhjahpkbjafaaaGreatDoor
open Go.RowKit

set_option maxRecDepth 100000 in
set_option maxHeartbeats 400000 in
theorem clamp_any (t : ByteArray) (a : Int) (w : World) :
    Calls Tryz.prog 75 #[.string t, .int .i64 a] w fun e w' => e = .returned (.int .i64 (clN t.size a)) ∧ w' = w := by
  go_enter Tryz.func75, Tryz.ntmps75
  go_wp2
  all_goals (go_ret; exact ⟨ret_int (by unfold clN; omega), rfl⟩)
set_option maxRecDepth 100000 in
set_option maxHeartbeats 400000 in
theorem lines_any (t : ByteArray) (w : World) (hs : t.size ≤ 1000000) :
    Calls Tryz.prog 103 #[.string t] w fun e w' => e = .returned (.int .i64 (linOf t.data.toList)) ∧ w' = w := by
  have hn := nls_le t.data.toList
  rw [size_list] at hn
  go_enter Tryz.func103, Tryz.ntmps103
  go_wp2_with (go_at_call 132; go_must (refine (ct_any _ _).mono ?_; rintro e w' ⟨rfl, rfl⟩))
  go_ret
  exact ⟨ret_int (by unfold linOf; omega), rfl⟩
end Go.Proofs.YtkhjahpkbjafaaaGreatDoor
namespace Go.Proofs.YtkhjahpkbjafaaaGreatDoor
open Go.RowKit

/-- where a text's first k letters begin, as values -/
def startsV (l : List UInt8) (k : Nat) : List Value := (List.range k).map (fun j => Value.int .i64 (pos l j))
end Go.Proofs.YtkhjahpkbjafaaaGreatDoor
namespace Go.Proofs.YtkhjahpkbjafaaaGreatDoor
open Go.RowKit

theorem take_list (s : ByteArray) (k : Nat) : (s.extract 0 k).data.toList = s.data.toList.take k := by simp
theorem take_size (s : ByteArray) (k : Nat) (h : k ≤ s.size) : (s.extract 0 k).size = k := by simp [h]
/-- the line and the column of a place -/
def ofL (t : ByteArray) (a : Int) : Nat := linOf (t.data.toList.take (clN t.size a))
def ofC (t : ByteArray) (a : Int) : Nat := colOf (t.data.toList.take (clN t.size a))
theorem colOf_at (m : ByteArray) : colOf m.data.toList = cnt (m.data.toList.drop (bol m.data.toList m.size)) + 1 := by
  unfold colOf; rw [size_list]
theorem count_at (s : ByteArray) (p : Nat) (w : World) (hs : s.size ≤ maxLen) :
    Calls Tryz.prog 104 #[.string (s.extract p s.size)] w fun e w' => e = .returned (.int .i64 (cnt (s.data.toList.drop p))) ∧ w' = w := by
  have := count_any (s.extract p s.size) w (cut_size _ _ hs)
  rwa [drop_list] at this
set_option maxRecDepth 100000 in
set_option maxHeartbeats 400000 in
theorem of_any (t : ByteArray) (a : Int) (w : World) (hs : t.size ≤ 1000000) :
    Calls Tryz.prog 74 #[.string t, .int .i64 a] w fun e w' => e = .returned (.tuple #[.int .i64 (ofL t a), .int .i64 (ofC t a)]) ∧ ∃ n, w' = w.drewN n := by
  have hc := clN_le t.size a
  obtain ⟨k, hk⟩ : ∃ k, clN t.size a = k := ⟨_, rfl⟩
  have HK := hid hk
  obtain ⟨m, hm⟩ : ∃ m, t.extract 0 k = m := ⟨_, rfl⟩
  have hms : m.size = k := by rw [← hm]; exact take_size t k (by omega)
  have HL := hid (show m.data.toList = t.data.toList.take k by rw [← hm]; exact take_list t k)
  have hmx : m.size ≤ maxLen := max_le (by omega)
  have hb := bol_le m.data.toList m.size
  have HC := hid (colOf_at m)
  have hcn : cnt (m.data.toList.drop (bol m.data.toList m.size)) ≤ m.size := by
    have := cnt_le (m.data.toList.drop (bol m.data.toList m.size)); rw [List.length_drop, size_list] at this; omega
  have hkt : k ≤ t.size := by omega
  have HM := hid hmx
  have hmy : m.size ≤ 1000000 := by omega
  clear hmx hms hk
  have e1 : ((bol m.data.toList m.size : Nat) : Int) - 1 + 1 = ((bol m.data.toList m.size : Nat) : Int) := by omega
  go_enter Tryz.func74, Tryz.ntmps74
  go_wp2_with (first
    | (go_at_call 75; go_must (refine (clamp_any _ _ _).mono ?_; rintro e w' ⟨rfl, rfl⟩; rw [HK.out]))
    | (go_at_call 102; go_must (refine (last_any _ _ HM.out).mono ?_; rintro e w' ⟨rfl, rfl⟩)))
  go_quiet (first
    | (go_at_call 103; go_must (exact Calls.quiet_of_same (lines_any _ _ hmy)))
    | (go_at_call 104; go_must (exact Calls.quiet_of_same (count_at _ _ _ HM.out))))
  go_wp2_with fail
  go_ret2
  exact ⟨ret_two (by unfold ofL; rw [HK.out, ← HL.out]) (by unfold ofC; rw [HK.out, ← HL.out, HC.out]; omega), _, rfl⟩
theorem below_drewN {B : Nat} {a w : World} (h : Below B a w) (n : Nat) : Below B a (w.drewN n) := h.trans ⟨rfl, rfl, rfl, Nat.le_refl _, fun _ _ => rfl⟩
theorem keeps {W V : World} (h : Below W.heap.size W V) : (∀ b o, b < W.heap.size → V.cell? ⟨b, o, none⟩ = W.cell? ⟨b, o, none⟩) ∧ ∀ b o, b < W.heap.size → V.frozen? ⟨b, o, none⟩ = W.frozen? ⟨b, o, none⟩ :=
  ⟨fun _ _ g => h.cell g, fun _ _ g => h.frozen g⟩
theorem onto {w a b : World} (h : Below w.heap.size w a) (k : Below a.heap.size a b) : Below w.heap.size w b := h.trans (k.mono h.size)
/-- a fault, as a value -/
def faultV (t : ByteArray) (a e : Int) : Value := .agg #[.int .i64 e, .int .i64 (clN t.size a), .int .i64 (ofL t a), .int .i64 (ofC t a)]
set_option maxRecDepth 100000 in
set_option maxHeartbeats 400000 in
theorem fault_any (t : ByteArray) (a e : Int) (w : World) (hs : t.size ≤ 1000000) :
    Calls Tryz.prog 54 #[.string t, .int .i64 a, .int .i64 e] w fun e' w' => e' = .returned (faultV t a e) ∧ Below w.heap.size w w' := by
  go_enter Tryz.func54, Tryz.ntmps54
  go_wp2_with (first
    | (go_at_call 74; go_must (refine (of_any _ _ _ hs).mono ?_; rintro e' w' ⟨rfl, n, rfl⟩))
    | (go_at_call 75; go_must (refine (clamp_any _ _ _).mono ?_; rintro e' w' ⟨rfl, rfl⟩)))
  refine bodyPost_ret (v := faultV t a e) (by simp [results, Tryz.results54, go_sem, faultV]) rfl ⟨rfl, ?_⟩
  exact ((((below_drewN ((Below.refl _ _).alloc (Nat.le_refl _) _) n).setCell (Nat.le_refl _) _).setCell (Nat.le_refl _) _).setCell (Nat.le_refl _) _).setCell (Nat.le_refl _) _
end Go.Proofs.YtkhjahpkbjafaaaGreatDoor
namespace Go.Proofs.YtkhjahpkbjafaaaGreatDoor
open Go.RowKit

end Go.Proofs.YtkhjahpkbjafaaaGreatDoor
