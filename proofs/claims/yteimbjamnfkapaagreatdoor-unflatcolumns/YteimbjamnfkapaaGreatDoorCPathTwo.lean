import Derived.Test.YteimbjamnfkapaaGreatDoorCPathOne
import Derived.Test.YteimbjamnfkapaaGreatDoorCShelf3
import Derived.Shelf.Strconv.ErrVarAll
import Derived.Lib.AtoiAllCases
import Derived.Lib.ItoaLen
import Derived.Lib.AppendIntMem
/- path.keyText, walked. -/
/- path.parseStep, walked. -/
/- path.Parse, walked. -/
/- path.Text, walked. -/
namespace Go.Proofs.YteimbjamnfkapaaGreatDoor
open Go.RowKit
structure Glob5 (w : World) : Prop where
 len : ∃ m : Int, w.cell? ⟨0, 0, none⟩ = some (.int .i64 m)
 tab : Lib.TabIs Tryz.prog w "internal/strconv.uint64pow10" .u64 Lib.pow10Tab
 ran : ∃ tp p, w.var? Tryz.prog "strconv.ErrRange" = some #[.iface tp p]
theorem Glob5.on {w w' : World} (h : Glob5 w) (hb : Below w.heap.size w w') : Glob5 w' :=
 ⟨h.len.imp fun _ hm => keepCell hb hm, var_on hb h.tab, h.ran.imp fun _ h1 => h1.imp fun _ h2 => var_on hb h2⟩
def keyM (k : List UInt8) : Bool := digB k || Lib.hasPrefix k [126, 107]
def keyT (k : List UInt8) : List UInt8 := if keyM k = true then [126, 107] ++ esc k else esc k
theorem repl_any (s old new : ByteArray) (w : World) (hg : Glob5 w) (hs : s.size ≤ 2000000000) (h1 : 1 ≤ old.size) (h2 : new.size ≤ 2) (hne : (old.data.toList == new.data.toList) = false) :
  Calls Tryz.prog 132 #[.string s, .string old, .string new] w fun e w' => e = .returned (.string (mkS (rA old.data.toList new.data.toList s.data.toList))) ∧ Below w.heap.size w w' := by
 obtain ⟨m, hm⟩ := hg.len
 have hc := Lib.countB_le old h1 s.size s (Nat.le_refl _)
 have hb : Lib.countB s old * new.size ≤ 2000000000 * 2 := Nat.mul_le_mul (by omega) h2
 have := Tryz.strings_ReplaceAll s old new m w (by omega) hm h1 (by omega)
 rw [ra_of hne] at this
 exact this
theorem len_esc1 (k : List UInt8) : (rA [126] [126, 48] k).length ≤ 2 * k.length := by
 rw [ra_one]
 induction k with
 | nil => simp
 | cons b l ih =>
  rw [List.flatMap_cons, List.length_append, List.length_cons]
  have : (if b = 126 then [126, 48] else [b] : List UInt8).length ≤ 2 := by split <;> simp
  omega
set_option maxRecDepth 100000 in
set_option maxHeartbeats 1000000 in
theorem ktext_any (s : ByteArray) (w : World) (hg : Glob5 w) (hs : s.size ≤ 1000000000) :
  Calls Tryz.prog 133 #[.string s] w fun e w' => e = .returned (.string (mkS (keyT s.data.toList))) ∧ Below w.heap.size w w' := by
 obtain ⟨s1, h1⟩ : ∃ s1, mkS (rA [126] [126, 48] s.data.toList) = s1 := ⟨_, rfl⟩
 obtain ⟨s2, h2⟩ : ∃ s2, mkS (esc s.data.toList) = s2 := ⟨_, rfl⟩
 have hl1 : s1.size ≤ 2000000000 := by
  have := len_esc1 s.data.toList
  rw [← size_list s1, ← h1, mkS_list]; rw [size_list] at this; omega
 have r1 : ∀ w', Below w.heap.size w w' → Calls Tryz.prog 132 #[.string s, .string ⟨#[126]⟩, .string ⟨#[126, 48]⟩] w' fun e w2 => e = .returned (.string s1) ∧ Below w'.heap.size w' w2 := fun w' hb => by
  have := repl_any s ⟨#[126]⟩ ⟨#[126, 48]⟩ w' (hg.on hb) (by omega) (by decide) (by decide) (by decide)
  rw [show rA (⟨#[126]⟩ : ByteArray).data.toList (⟨#[126, 48]⟩ : ByteArray).data.toList s.data.toList = rA [126] [126, 48] s.data.toList from rfl, h1] at this
  exact this
 have r2 : ∀ w', Below w.heap.size w w' → Calls Tryz.prog 132 #[.string s1, .string ⟨#[47]⟩, .string ⟨#[126, 49]⟩] w' fun e w2 => e = .returned (.string s2) ∧ Below w'.heap.size w' w2 := fun w' hb => by
  have := repl_any s1 ⟨#[47]⟩ ⟨#[126, 49]⟩ w' (hg.on hb) hl1 (by decide) (by decide) (by decide)
  rw [show rA (⟨#[47]⟩ : ByteArray).data.toList (⟨#[126, 49]⟩ : ByteArray).data.toList s1.data.toList = esc s.data.toList by rw [← h1, mkS_list]; exact esc_of _, h2] at this
  exact this
 have rd : ∀ w', Calls Tryz.prog 129 #[.string s] w' fun e w2 => e = .returned (.bool (digB s.data.toList)) ∧ Below w'.heap.size w' w2 := fun w' => pdig_any s w' (by unfold maxLen; omega)
 have rp : ∀ w', Calls Tryz.prog 186 #[.string s, .string ⟨#[126, 107]⟩] w' fun e w2 => e = .returned (.bool (Lib.hasPrefix s.data.toList [126, 107])) ∧ w2 = w' := fun w' => Tryz.strings_HasPrefix s ⟨#[126, 107]⟩ w'
 have HRET := hid (show keyM s.data.toList = true → (⟨#[126, 107]⟩ : ByteArray) ++ s2 = mkS (keyT s.data.toList) by
  intro h; unfold keyT; rw [if_pos h, ← h2]
  apply ByteArray.ext
  apply Array.ext'
  simp [mkS])
 have HRE2 := hid (show keyM s.data.toList = false → s2 = mkS (keyT s.data.toList) by
  intro h; unfold keyT; rw [if_neg (by rw [h]; decide), h2])
 have hs2 : s2.size ≤ 2000000000 := by
  have := esc_len s.data.toList
  rw [← size_list s2, ← h2, mkS_list]; rw [size_list] at this; omega
 unfold keyM at HRET HRE2
 revert rd rp HRET HRE2
 generalize digB s.data.toList = bd
 generalize Lib.hasPrefix s.data.toList [126, 107] = bp
 intro rd rp HRET HRE2
 clear h1 h2
 have hb0 := Below.refl w.heap.size w
 go_enter Tryz.func133, Tryz.ntmps133
 cases bd with
 | true =>
  have HR := hid (HRET.out (by simp))
  clear HRET HRE2
  go_wp2_with (first
   | (go_at_call 132; go_must (first | (refine (r2 _ hb1).mono ?_; rintro e w2 ⟨rfl, hb2⟩) | (refine (r1 _ hb0).mono ?_; rintro e w1 ⟨rfl, hb1⟩)))
   | (go_at_call 129; go_must (refine (rd _).mono ?_; rintro e w3 ⟨rfl, hb3⟩)))
  all_goals go_ret
  all_goals exact ⟨ret_str HR.out, vonto (vonto hb1 hb2) hb3⟩
 | false =>
  cases bp with
  | true =>
   have HR := hid (HRET.out (by simp))
   clear HRET HRE2
   go_wp2_with (first
    | (go_at_call 132; go_must (first | (refine (r2 _ hb1).mono ?_; rintro e w2 ⟨rfl, hb2⟩) | (refine (r1 _ hb0).mono ?_; rintro e w1 ⟨rfl, hb1⟩)))
    | (go_at_call 129; go_must (refine (rd _).mono ?_; rintro e w3 ⟨rfl, hb3⟩))
    | (go_at_call 186; go_must (refine (rp _).mono ?_; rintro e w4 ⟨rfl, rfl⟩)))
   all_goals go_ret
   all_goals exact ⟨ret_str HR.out, vonto (vonto hb1 hb2) hb3⟩
  | false =>
   have HR := hid (HRE2.out (by simp))
   clear HRET HRE2
   go_wp2_with (first
    | (go_at_call 132; go_must (first | (refine (r2 _ hb1).mono ?_; rintro e w2 ⟨rfl, hb2⟩) | (refine (r1 _ hb0).mono ?_; rintro e w1 ⟨rfl, hb1⟩)))
    | (go_at_call 129; go_must (refine (rd _).mono ?_; rintro e w3 ⟨rfl, hb3⟩))
    | (go_at_call 186; go_must (refine (rp _).mono ?_; rintro e w4 ⟨rfl, rfl⟩)))
   all_goals go_ret
   all_goals exact ⟨ret_str HR.out, vonto (vonto hb1 hb2) hb3⟩
def dvs (a : Nat) (c : UInt8) : Nat := a * 10 + (c.toNat - 48)
def dv (acc : Nat) (l : List UInt8) : Nat := l.foldl dvs acc
theorem dv_cons (acc : Nat) (c : UInt8) (r : List UInt8) : dv acc (c :: r) = dv (acc * 10 + (c.toNat - 48)) r := List.foldl_cons ..
theorem dv_ge : ∀ (l : List UInt8) (acc : Nat), acc ≤ dv acc l
 | [], acc => Nat.le_refl _
 | c :: r, acc => by
  have := dv_ge r (acc * 10 + (c.toNat - 48))
  rw [dv_cons]
  exact Nat.le_trans (by omega) this
theorem pu_dig : ∀ (l : List UInt8) (acc : Nat), acc < 18446744073709551616 → l.all (fun b => decide (48 ≤ b.toNat) && decide (b.toNat ≤ 57)) = true → Lib.parseUint10 acc l = if dv acc l < 18446744073709551616 then .ok (dv acc l) else .range
 | [], acc, ha, _ => by rw [show dv acc [] = acc from rfl, if_pos ha]; rfl
 | c :: r, acc, ha, h => by
  rw [List.all_cons, Bool.and_eq_true] at h
  obtain ⟨hc, hr⟩ := h
  simp only [Bool.and_eq_true, decide_eq_true_eq] at hc
  have hge := dv_ge r (acc * 10 + (c.toNat - 48))
  have HI := fun h => pu_dig r (acc * 10 + (c.toNat - 48)) h hr
  rw [Lib.parseUint10, if_pos hc, dv_cons]
  generalize dv (acc * 10 + (c.toNat - 48)) r = D at hge HI ⊢
  by_cases h1 : 1844674407370955162 ≤ acc
  ·rw [if_pos h1, if_neg (by omega)]
  ·rw [if_neg h1]
   by_cases h2 : 18446744073709551616 ≤ acc * 10 + (c.toNat - 48)
   ·rw [if_pos h2, if_neg (by omega)]
   ·rw [if_neg h2, HI (by omega)]
theorem atoi_dig (l : List UInt8) (h : digB l = true) : Lib.atoiAll l = if dv 0 l < 9223372036854775808 then .ok (dv 0 l : Int) else .range := by
 unfold digB at h
 simp only [Bool.and_eq_true] at h
 obtain ⟨⟨h1, -⟩, h3⟩ := h
 cases l with
 | nil => simp at h1
 | cons c r =>
  have hc : 48 ≤ c.toNat := by
   have := h3
   rw [List.all_cons, Bool.and_eq_true] at this
   have := this.1
   simp only [Bool.and_eq_true, decide_eq_true_eq] at this
   exact this.1
  rw [Lib.atoiAll_plain c r (by omega) (by omega), Lib.parseMag, if_neg (by simp), pu_dig _ 0 (by omega) h3]
  by_cases hA : dv 0 (c :: r) < 9223372036854775808
  ·rw [if_pos hA, if_pos (by omega), Lib.signless, if_neg (by omega)]
  ·rw [if_neg hA]
   by_cases hB : dv 0 (c :: r) < 18446744073709551616
   ·rw [if_pos hB, Lib.signless, if_pos (by omega)]
   ·rw [if_neg hB]; rfl
theorem ra_short {old new : List UInt8} (h0 : old ≠ []) (hn : new.length ≤ old.length) : ∀ (n : Nat) (s : List UInt8), s.length ≤ n → (rA old new s).length ≤ s.length
 | n, [], _ => by rw [ra_nil old new h0]; exact Nat.le_refl _
 | 0, b :: l, h => by simp at h
 | n + 1, b :: l, h => by
  simp only [List.length_cons] at h
  cases hp : old.isPrefixOf (b :: l) with
  | false =>
   rw [ra_cons h0 hp]
   have := ra_short h0 hn n l (by omega)
   simp only [List.length_cons]; omega
  | true =>
   obtain ⟨t, ht⟩ := List.isPrefixOf_iff_prefix.1 hp
   rw [← ht, ra_hit t h0]
   have hl := congrArg List.length ht
   simp only [List.length_append, List.length_cons] at hl
   have h1 : 1 ≤ old.length := by cases old with | nil => exact absurd rfl h0 | cons a b => simp
   have := ra_short h0 hn n t (by omega)
   simp only [List.length_append]; omega
theorem trim_len (l p : List UInt8) : (Lib.trimPrefix l p).length ≤ l.length := by
 unfold Lib.trimPrefix
 split
 ·simp
 ·exact Nat.le_refl _
def unK (l : List UInt8) : List UInt8 := rA [126, 48] [126] (rA [126, 49] [47] (Lib.trimPrefix l [126, 107]))
theorem unK_back (k : List UInt8) (h : Lib.trimPrefix (keyT k) [126, 107] = esc k) : unK (keyT k) = k := by
 unfold unK; rw [h]; exact esc_back k
def psOk (l : List UInt8) : Bool := if digB l = true then decide (dv 0 l ≤ 1000000000) else decide (keyT (unK l) = l)
def psStep (l : List UInt8) : PStep := if digB l = true then ⟨⟨#[]⟩, (if dv 0 l < 9223372036854775808 then dv 0 l else 9223372036854775807 : Nat), true⟩ else ⟨mkS (unK l), 0, false⟩
theorem atoi_any (s : ByteArray) (w : World) (hg : Glob5 w) (hs : s.size ≤ 1000000000) (hd : digB s.data.toList = true) :
  Calls Tryz.prog 130 #[.string s] w fun e w' => Below w.heap.size w w' ∧
   ((Hid (dv 0 s.data.toList < 9223372036854775808) ∧ e = .returned (.tuple #[.int .i64 (dv 0 s.data.toList : Nat), .nilIface])) ∨ (Hid (¬ dv 0 s.data.toList < 9223372036854775808) ∧ ∃ t p, e = .returned (.tuple #[.int .i64 9223372036854775807, .iface t p]))) := by
 have ha := atoi_dig _ hd
 by_cases hlt : dv 0 s.data.toList < 9223372036854775808
 ·rw [if_pos hlt] at ha
  refine (Tryz.strconv_Atoi_ok s (by omega) _ ha w).mono ?_
  rintro e w' ⟨rfl, rfl | ⟨t, rfl⟩⟩
  ·exact ⟨Below.refl _ _, Or.inl ⟨hid hlt, rfl⟩⟩
  ·exact ⟨Lib.bytesWorld_below _ _ _, Or.inl ⟨hid hlt, rfl⟩⟩
 ·rw [if_neg hlt] at ha
  obtain ⟨tp, p, hv⟩ := hg.ran
  have hsat : Lib.atoiSat s.data.toList = 9223372036854775807 := by
   unfold digB at hd
   simp only [Bool.and_eq_true] at hd
   obtain ⟨⟨h1, -⟩, h3⟩ := hd
   cases hl : s.data.toList with
   | nil => rw [hl] at h1; simp at h1
   | cons c r =>
    rw [hl, List.all_cons, Bool.and_eq_true] at h3
    have := h3.1
    simp only [Bool.and_eq_true, decide_eq_true_eq] at this
    exact Lib.atoiSat_other c r (by omega)
  refine (Any.strconv_Atoi_range_var Tryz.laysC172 s (by omega) ha tp p w hv).mono ?_
  rintro e w' ⟨N, rfl, -, -, hb⟩
  rw [hsat]
  exact ⟨hb, Or.inr ⟨hid hlt, _, _, rfl⟩⟩
def Z3 (w : World) (b : Nat) : Prop := (w.cell? ⟨b, 0, none⟩ = some (.string ⟨#[]⟩) ∧ w.cell? ⟨b, 1, none⟩ = some (.int .i64 0) ∧ w.cell? ⟨b, 2, none⟩ = some (.bool false)) ∧ ∀ o, w.frozen? ⟨b, o, none⟩ = false
theorem z3_new (w : World) : Z3 (w.alloc (.cells #[.string ⟨#[]⟩, .int .i64 0, .bool false] 78)) w.heap.size := ⟨by simp, fun o => (Row.new w #[.string ⟨#[]⟩, .int .i64 0, .bool false] 78).frozen o⟩
theorem Z3.onto {w w' : World} {b : Nat} (h : Z3 w b) (hb : Below w.heap.size w w') : Z3 w' b :=
 ⟨⟨keepCell hb h.1.1, keepCell hb h.1.2.1, keepCell hb h.1.2.2⟩, fun o => (hb.frozen (p := ⟨b, o, none⟩) (World.block_lt_of_cell? w ⟨b, 0, none⟩ h.1.1)).trans (h.2 o)⟩
set_option maxRecDepth 100000 in
set_option maxHeartbeats 2000000 in
theorem pstep_any (s : ByteArray) (w : World) (hg : Glob5 w) (hs : s.size ≤ 1000000000) :
  Calls Tryz.prog 79 #[.string s] w fun e w' => e = .returned (.tuple #[pv (psStep s.data.toList), .bool (psOk s.data.toList)]) ∧ Below w.heap.size w w' := by
 have rd : ∀ w', Calls Tryz.prog 129 #[.string s] w' fun e w2 => e = .returned (.bool (digB s.data.toList)) ∧ Below w'.heap.size w' w2 := fun w' => pdig_any s w' (by unfold maxLen; omega)
 cases hd : digB s.data.toList with
 | true =>
  rw [hd] at rd
  have ra := hid (fun w' (hb : Below w.heap.size w w') => atoi_any s w' (hg.on hb) hs hd)
  have H1 := hid (show psOk s.data.toList = decide (dv 0 s.data.toList ≤ 1000000000) by unfold psOk; rw [if_pos hd])
  have H2 := hid (show psStep s.data.toList = ⟨⟨#[]⟩, (if dv 0 s.data.toList < 9223372036854775808 then dv 0 s.data.toList else 9223372036854775807 : Nat), true⟩ by unfold psStep; rw [if_pos hd])
  generalize psOk s.data.toList = ok at H1 ⊢
  generalize psStep s.data.toList = st at H2 ⊢
  generalize dv 0 s.data.toList = d at H1 H2 ra
  clear hd
  go_enter Tryz.func79, Tryz.ntmps79
  go_wp2_with (first
   | (go_at_call 129; go_must (refine (rd _).mono ?_; rintro e w1 ⟨rfl, hb1'⟩; have hb1 := vonto (valloc_bel (Below.refl _ _) _) hb1'))
   | (go_at_call 130; go_must (refine (ra.out _ hb1).mono ?_; rintro e w2 ⟨hb2, hh⟩; obtain ⟨⟨c0, c1, c2⟩, zf⟩ := ((z3_new w).onto hb1').onto hb2; rcases hh with ⟨hlt, rfl⟩ | ⟨hlt, t, p, rfl⟩)))
  ·refine bodyPost_ret (v := .tuple #[.agg #[.string ⟨#[]⟩, .int .i64 (d : Int), .bool true], .bool (decide ((d : Int) ≤ 1000000000))]) (by simp [results, Tryz.results79, go_sem, c0, c1, c2]) rfl ⟨?_, ?_⟩
   ·rw [H2.out, H1.out, if_pos hlt.out, show decide ((d : Int) ≤ 1000000000) = decide (d ≤ 1000000000) from decide_eq_decide.2 (by omega)]; rfl
   ·repeat (first | exact vonto hb1 hb2 | apply valloc_bel | (refine vset_bel ?_ (Nat.le_refl _)))
  ·refine bodyPost_ret (v := .tuple #[.agg #[.string ⟨#[]⟩, .int .i64 9223372036854775807, .bool true], .bool false]) (by simp [results, Tryz.results79, go_sem, c0, c1, c2]) rfl ⟨?_, ?_⟩
   ·rw [H2.out, H1.out, if_neg hlt.out, decide_eq_false (show ¬ d ≤ 1000000000 by have := hlt.out; omega)]; rfl
   ·repeat (first | exact vonto hb1 hb2 | apply valloc_bel | (refine vset_bel ?_ (Nat.le_refl _)))
 | false =>
  rw [hd] at rd
  obtain ⟨s1, h1⟩ : ∃ s1, mkS (Lib.trimPrefix s.data.toList [126, 107]) = s1 := ⟨_, rfl⟩
  obtain ⟨s2, h2⟩ : ∃ s2, mkS (rA [126, 49] [47] (Lib.trimPrefix s.data.toList [126, 107])) = s2 := ⟨_, rfl⟩
  obtain ⟨s3, h3⟩ : ∃ s3, mkS (unK s.data.toList) = s3 := ⟨_, rfl⟩
  have l1 : s1.size ≤ 1000000000 := by
   rw [← size_list s1, ← h1, mkS_list]
   rw [← size_list s] at hs
   exact Nat.le_trans (trim_len _ _) hs
  have l2 : s2.size ≤ 1000000000 := by
   rw [← size_list s2, ← h2, mkS_list]
   rw [← size_list s1, ← h1, mkS_list] at l1
   exact Nat.le_trans (ra_short (by simp) (by simp) _ _ (Nat.le_refl _)) l1
  have l3 : s3.size ≤ 1000000000 := by
   rw [← size_list s3, ← h3, mkS_list]
   rw [← size_list s2, ← h2, mkS_list] at l2
   exact Nat.le_trans (ra_short (by simp) (by simp) _ _ (Nat.le_refl _)) l2
  have rt : ∀ w', Calls Tryz.prog 131 #[.string s, .string ⟨#[126, 107]⟩] w' fun e w2 => e = .returned (.string s1) ∧ w2 = w' := fun w' => by
   have := Tryz.strings_TrimPrefix s ⟨#[126, 107]⟩ w'
   rw [← h1]; exact this
  have r1 : ∀ w', Below w.heap.size w w' → Calls Tryz.prog 132 #[.string s1, .string ⟨#[126, 49]⟩, .string ⟨#[47]⟩] w' fun e w2 => e = .returned (.string s2) ∧ Below w'.heap.size w' w2 := fun w' hb => by
   have := repl_any s1 ⟨#[126, 49]⟩ ⟨#[47]⟩ w' (hg.on hb) (by omega) (by decide) (by decide) (by decide)
   rw [show rA (⟨#[126, 49]⟩ : ByteArray).data.toList (⟨#[47]⟩ : ByteArray).data.toList s1.data.toList = rA [126, 49] [47] (Lib.trimPrefix s.data.toList [126, 107]) by rw [← h1, mkS_list], h2] at this
   exact this
  have r2 : ∀ w', Below w.heap.size w w' → Calls Tryz.prog 132 #[.string s2, .string ⟨#[126, 48]⟩, .string ⟨#[126]⟩] w' fun e w2 => e = .returned (.string s3) ∧ Below w'.heap.size w' w2 := fun w' hb => by
   have := repl_any s2 ⟨#[126, 48]⟩ ⟨#[126]⟩ w' (hg.on hb) (by omega) (by decide) (by decide) (by decide)
   rw [show rA (⟨#[126, 48]⟩ : ByteArray).data.toList (⟨#[126]⟩ : ByteArray).data.toList s2.data.toList = unK s.data.toList by rw [← h2, mkS_list]; rfl, h3] at this
   exact this
  obtain ⟨s4, h4⟩ : ∃ s4, mkS (keyT (unK s.data.toList)) = s4 := ⟨_, rfl⟩
  have rk : ∀ w', Below w.heap.size w w' → Calls Tryz.prog 133 #[.string s3] w' fun e w2 => e = .returned (.string s4) ∧ Below w'.heap.size w' w2 := fun w' hb => by
   have := ktext_any s3 w' (hg.on hb) l3
   rw [show s3.data.toList = unK s.data.toList by rw [← h3, mkS_list], h4] at this
   exact this
  have HE := hid (show (s4.toList == s.toList) = psOk s.data.toList by
   unfold psOk; rw [if_neg (by rw [hd]; decide), str_eq s4 _ (by rw [← h4, mkS_list]), Lib.toList_data])
  have H2 := hid (show psStep s.data.toList = ⟨s3, 0, false⟩ by unfold psStep; rw [if_neg (by rw [hd]; decide), h3])
  generalize psOk s.data.toList = ok at HE ⊢
  generalize psStep s.data.toList = st at H2 ⊢
  clear hd h1 h2 h3 h4 l1 l2 l3 hs
  go_enter Tryz.func79, Tryz.ntmps79
  go_wp2_with (first
   | (go_at_call 129; go_must (refine (rd _).mono ?_; rintro e w1 ⟨rfl, hb1'⟩; have hb1 := vonto (valloc_bel (Below.refl _ _) _) hb1'))
   | (go_at_call 131; go_must (refine (rt _).mono ?_; rintro e w2 ⟨rfl, hw2⟩; obtain rfl := hw2.symm))
   | (go_at_call 132; go_must (first | (refine (r2 _ hb2).mono ?_; rintro e w3 ⟨rfl, hb3'⟩; have hb3 := vonto hb2 hb3') | (refine (r1 _ hb1).mono ?_; rintro e w2 ⟨rfl, hb2'⟩; have hb2 := vonto hb1 hb2')))
   | (go_at_call 133; go_must (refine (rk _ hb3).mono ?_; rintro e w4 ⟨rfl, hb4⟩; obtain ⟨⟨c0, c1, c2⟩, zf⟩ := ((((z3_new w).onto hb1').onto hb2').onto hb3').onto hb4)))
  refine bodyPost_ret (v := .tuple #[.agg #[.string s3, .int .i64 0, .bool false], .bool (s4.toList == s.toList)]) (by simp [results, Tryz.results79, go_sem, c0, c1, c2]) rfl ⟨?_, ?_⟩
  ·rw [H2.out, HE.out]; rfl
  ·repeat (first | exact vonto hb3 hb4 | apply valloc_bel | (refine vset_bel ?_ (Nat.le_refl _)))
def piecesP (l : List UInt8) : List (List UInt8) := Lib.split (l.drop 1) [47]
def parseP (l : List UInt8) : Option (List PStep) :=
 if l = [] then some [] else if ¬ l.getD 0 0 = 47 then none else if (piecesP l).all psOk = true then some ((piecesP l).map psStep) else none
def ParsePost (l : List UInt8) (e : Ending) (w' : World) : Prop :=
 (∃ v p, parseP l = some p ∧ e = .returned (.tuple #[v, .int .i64 0]) ∧ InP w' p v) ∨ (parseP l = none ∧ e = .returned (.tuple #[.slice none 0 0, .int .i64 4]))
theorem Tryz.madeP (n : Nat) (h : n ≤ 1000001) (w : World) : (Instr.makeSlice 41 (.int .i64 (n : Int)) (.int .i64 (n : Int))).run Tryz.prog w = .ok (.slice (some ⟨w.heap.size, 0, none⟩) n n) (w.alloc (.cells (madeCells #[.string ⟨#[]⟩, .int .i64 0, .bool false] (n * 3)) 78)) := by
 obtain ⟨i, hi, hz⟩ := Option.map_eq_some_iff.1 (show (Tryz.prog.info? 78).map (fun i => (i.zero, i.size, i.bytes)) = some (some (.agg #[.string ⟨#[]⟩, .int .i64 0, .bool false]), 3, 32) by kernel_rfl)
 simp only [Prod.mk.injEq] at hz
 obtain ⟨hz, hs, hb⟩ := hz
 have := run_make (P := Tryz.prog) w 41 78 i _ Tryz.underlying41 hi hz .i64 .i64 n n (by omega) (Int.le_refl _) (by rw [hb]; omega) (by omega)
 rw [hs] at this
 simp only [Int.toNat_natCast] at this
 exact this
def put3 (w : World) (b o : Nat) (v0 v1 v2 : Value) : World := ((w.setCell ⟨b, o, none⟩ v0).setCell ⟨b, o + 1, none⟩ v1).setCell ⟨b, o + 2, none⟩ v2
theorem put3_row {w : World} {b m : Nat} {t : TypeId} (h : Row w b t m) (b' o : Nat) (v0 v1 v2 : Value) : Row (put3 w b' o v0 v1 v2) b t m := ((h.set _ _).set _ _).set _ _
theorem put3_other (w : World) (b o : Nat) (v0 v1 v2 : Value) (o' : Nat) (h : o' < o ∨ o + 3 ≤ o') : (put3 w b o v0 v1 v2).cell? ⟨b, o', none⟩ = w.cell? ⟨b, o', none⟩ := by
 unfold put3
 rw [set_other _ _ _ _ _ _ (Or.inr (by omega)), set_other _ _ _ _ _ _ (Or.inr (by omega)), set_other _ _ _ _ _ _ (Or.inr (by omega))]
theorem put3_same {w : World} {b m : Nat} {t : TypeId} (h : Row w b t m) {o : Nat} (ho : o + 2 < m) (v0 v1 v2 : Value) :
  (put3 w b o v0 v1 v2).cell? ⟨b, o, none⟩ = some v0 ∧ (put3 w b o v0 v1 v2).cell? ⟨b, o + 1, none⟩ = some v1 ∧ (put3 w b o v0 v1 v2).cell? ⟨b, o + 2, none⟩ = some v2 := by
 unfold put3
 refine ⟨?_, ?_, ?_⟩
 ·rw [set_other _ _ _ _ _ _ (Or.inr (by omega)), set_other _ _ _ _ _ _ (Or.inr (by omega))]; exact set_same h (by omega) _
 ·rw [set_other _ _ _ _ _ _ (Or.inr (by omega))]; exact set_same (h.set _ _) (by omega) _
 ·exact set_same ((h.set _ _).set _ _) ho _
def PPart (w : World) (b : Nat) (P : List ByteArray) (j : Nat) : Prop := ∀ k s, k < j → P[k]? = some s → psOk s.data.toList = true ∧
 w.cell? ⟨b, k * 3, none⟩ = some (.string (psStep s.data.toList).key) ∧ w.cell? ⟨b, k * 3 + 1, none⟩ = some (.int .i64 (psStep s.data.toList).at_) ∧ w.cell? ⟨b, k * 3 + 2, none⟩ = some (.bool (psStep s.data.toList).place)
theorem ppart_next {w w1 : World} {b m : Nat} {t : TypeId} {P : List ByteArray} {j : Nat} (h : PPart w b P j) (hb : w1.heap[b]? = w.heap[b]?) (hr : Row w1 b t m) (hm : j * 3 + 2 < m) {s : ByteArray} (hs : P[j]? = some s) (ho : psOk s.data.toList = true) :
  PPart (put3 w1 b (j * 3) (.string (psStep s.data.toList).key) (.int .i64 (psStep s.data.toList).at_) (.bool (psStep s.data.toList).place)) b P (j + 1) := by
 intro k u hk hu
 by_cases e : k = j
 ·subst e
  rw [hs] at hu; cases hu
  exact ⟨ho, put3_same hr hm _ _ _⟩
 ·have hk' : k < j := by omega
  obtain ⟨g0, g1, g2, g3⟩ := h k u hk' hu
  have hc : ∀ o, w1.cell? ⟨b, o, none⟩ = w.cell? ⟨b, o, none⟩ := fun o => by simp only [World.cell?, hb]
  rw [put3_other _ _ _ _ _ _ _ (by omega), put3_other _ _ _ _ _ _ _ (by omega), put3_other _ _ _ _ _ _ _ (by omega), hc, hc, hc]
  exact ⟨g0, g1, g2, g3⟩
theorem row_alloc {w : World} {b m : Nat} {t : TypeId} (h : Row w b t m) (o : Obj) : Row (w.alloc o) b t m := h.onto (((Below.refl w.heap.size w).alloc (Nat.le_refl _) o).block b h.lt)
theorem ppart_alloc {w : World} {b : Nat} {P : List ByteArray} {j : Nat} (h : PPart w b P j) (o : Obj) : PPart (w.alloc o) b P j := fun k s hk hs =>
 have hb := (Below.refl w.heap.size w).alloc (Nat.le_refl _) o
 ⟨(h k s hk hs).1, keepCell hb (h k s hk hs).2.1, keepCell hb (h k s hk hs).2.2.1, keepCell hb (h k s hk hs).2.2.2⟩
theorem step_size (c : ByteArray) (h : c.size ≤ 1000000000) : (psStep c.data.toList).key.size ≤ maxLen := by
 unfold psStep
 split
 ·exact Nat.zero_le _
 ·rw [← size_list, mkS_list]
  unfold unK
  refine Nat.le_trans (ra_short (by simp) (by simp) _ _ (Nat.le_refl _)) (Nat.le_trans (ra_short (by simp) (by simp) _ _ (Nat.le_refl _)) (Nat.le_trans (trim_len _ _) ?_))
  rw [size_list]; unfold maxLen; omega
theorem split_small (sep : ByteArray) : ∀ (k : Nat) (s p : ByteArray), p ∈ Lib.splitB sep 0 k s → p.size ≤ s.size
 | 0, s, p, h => by
  rw [Lib.splitB_zero, List.mem_singleton] at h
  rw [h]; exact Nat.le_refl _
 | k + 1, s, p, h => by
  unfold Lib.splitB at h
  split at h
  ·rw [List.mem_singleton] at h
   rw [h]; exact Nat.le_refl _
  ·rw [List.mem_cons] at h
   rcases h with rfl | h
   ·rw [ByteArray.size_extract]; omega
   ·have := split_small sep k _ p h
    rw [ByteArray.size_extract] at this; omega
set_option maxRecDepth 100000 in
set_option maxHeartbeats 2000000 in
theorem parse_any (s : ByteArray) (w : World) (hg : Glob5 w) (hs : s.size ≤ 1000000) :
  Calls Tryz.prog 36 #[.string s] w fun e w' => ParsePost s.data.toList e w' ∧ Below w.heap.size w w' := by
 have HZ := hid (size_list s)
 by_cases h1 : s.size = 0
 ·have hs0 : s = ⟨#[]⟩ := by
   have : s.data.toList = [] := List.eq_nil_of_length_eq_zero (by rw [HZ.out]; exact h1)
   rw [mkS_of s _ rfl, this]; rfl
  subst hs0
  go_enter Tryz.func36, Tryz.ntmps36
  go_wp2_with fail
  go_ret2
  exact ⟨Or.inl ⟨_, [], rfl, rfl, ⟨⟨0, 0, none⟩, ⟨none, 0, rfl, Nat.le_refl _, Nat.zero_le _, fun h => absurd h (by simp)⟩, fun i s h => by simp at h⟩⟩, Below.refl _ _⟩
 ·have h0 : 0 < s.size := by omega
  have hne : ¬ s.data.toList = [] := fun hc => by have := congrArg List.length hc; rw [HZ.out] at this; exact h1 (by simpa using this)
  have hem : s.toList.isEmpty = false := by rw [Lib.toList_data, List.isEmpty_eq_false_iff]; exact hne
  have hn0 : ¬ s.toList = [] := by rw [Lib.toList_data]; exact hne
  have HF := hid (first_at s h0)
  by_cases h47 : s[0] = 47
  ·obtain ⟨u, hu⟩ : ∃ u, s.extract 1 s.size = u := ⟨_, rfl⟩
   obtain ⟨P, hP⟩ : ∃ P, Lib.splitB ⟨#[47]⟩ 0 (Lib.countB u ⟨#[47]⟩) u = P := ⟨_, rfl⟩
   have huz : u.size ≤ 999999 := by rw [← hu, ByteArray.size_extract]; omega
   have hlen : P.length = Lib.countB u ⟨#[47]⟩ + 1 := by rw [← hP]; exact Lib.splitB_all _ (by decide) _ _ _ rfl
   have hcnt := Lib.countB_le ⟨#[47]⟩ (by decide) u.size u (Nat.le_refl _)
   have HPC := hid (show P.map (·.data.toList) = piecesP s.data.toList by
    rw [← hP, Lib.splitB_data]
    unfold piecesP Lib.split
    rw [← Lib.extract_to_end s 1, hu])
   have HSM := hid (show ∀ p ∈ P, p.size ≤ 1000000000 from fun p hp => by rw [← hP] at hp; have := split_small _ _ _ _ hp; omega)
   have HSP : Hid (∀ X, Below w.heap.size w X → Calls Tryz.prog 78 #[.string u, .string ⟨#[47]⟩] X fun e w' => e = .returned (.slice (some ⟨X.heap.size, 0, none⟩) P.length P.length) ∧ w' = X.alloc (.cells (P.map Value.string).toArray 9)) := fun X hX => by
    obtain ⟨m, hm⟩ := (hg.on hX).len
    have := Tryz.strings_Split u ⟨#[47]⟩ m X (by omega) hm (by decide)
    rw [hP, ← hlen] at this
    exact this
   have hn : P.length ≤ 1000001 := by omega
   have hn1 : 1 ≤ P.length := by omega
   have HG := hid hg
   have HH := hid (show parseP s.data.toList = if (piecesP s.data.toList).all psOk = true then some ((piecesP s.data.toList).map psStep) else none by
    unfold parseP; rw [if_neg hne, if_neg (by rw [HF.out, h47]; decide)])
   have hmk := Tryz.madeP P.length hn
   have h47' : (s[0].toNat : Int) = 47 := by rw [h47]; rfl
   have hb0 := Below.refl w.heap.size w
   clear hP huz hlen hcnt HF h47 hne hg
   go_enter Tryz.func36, Tryz.ntmps36
   go_wp2_with (go_at_call 78; go_must (refine (HSP.out _ hb0).mono ?_; rintro e w1 ⟨rfl, rfl⟩))
   have hz : (madeCells #[.string ⟨#[]⟩, .int .i64 0, .bool false] (P.length * 3)).size = P.length * 3 := size_madeCells _ _
   have HNEW := hid (Row.new (w.alloc (.cells (P.map Value.string).toArray 9)) (madeCells #[.string ⟨#[]⟩, .int .i64 0, .bool false] (P.length * 3)) 78)
   rw [hz] at HNEW
   clear hz
   generalize madeCells #[.string ⟨#[]⟩, .int .i64 0, .bool false] (P.length * 3) = cells at HNEW ⊢
   have HPK : Hid (∀ k c, P[k]? = some c → ((w.alloc (.cells (P.map Value.string).toArray 9)).alloc (.cells cells 78)).cell? ⟨w.heap.size, k, none⟩ = some (.string c)) := fun k c hk => by
    have hlt := lt_of_some hk
    refine keepCell (w := w.alloc (.cells (P.map Value.string).toArray 9)) ((Below.refl _ _).alloc (Nat.le_refl _) _) ?_
    have hA0 : (w.alloc (.cells (P.map Value.string).toArray 9)).heap[w.heap.size]? = some (.cells (P.map Value.string).toArray 9) := by show (w.heap.push _)[w.heap.size]? = _; simp
    simp only [World.cell?]
    rw [hA0]
    simp [hk]
   have hbA := valloc_bel (valloc_bel hb0 (.cells (P.map Value.string).toArray 9)) (.cells cells 78)
   generalize hA : ((w.alloc (.cells (P.map Value.string).toArray 9)).alloc (.cells cells 78)) = A at HNEW HPK hbA ⊢
   have hAz : A.heap.size = w.heap.size + 2 := by rw [← hA]; simp
   clear hmk hA
   go_loopw [23] (fun i wr => ∃ j : Nat, j ≤ P.length ∧ i = .int .i64 j ∧ Below (w.heap.size + 1) A wr ∧ Hid (Row wr (w.heap.size + 1) 78 (P.length * 3)) ∧ Hid (PPart wr (w.heap.size + 1) P j)) (fun i _ => P.length - (intOf i).toNat)
   case atStart => exact ⟨0, Nat.zero_le _, rfl, Below.refl _ _, by simpa using HNEW, fun k s h => absurd h (Nat.not_lt_zero _)⟩
   case round =>
    obtain ⟨j, hj, rfl, hbw, HR, HPP⟩ := hrel
    by_cases hlt : j < P.length
    ·obtain ⟨c, hc⟩ : ∃ c, P[j]? = some c := ⟨P[j], List.getElem?_eq_getElem hlt⟩
     have d0 : wr.cell? ⟨w.heap.size, j, none⟩ = some (.string c) := (hbw.cell (p := ⟨w.heap.size, j, none⟩) (Nat.lt_succ_self _)).trans (HPK.out j c hc)
     have hbwr : Below w.heap.size w wr := hbA.trans (hbw.mono (Nat.le_succ _))
     have HST := hid (fun (X : World) (hX : Below w.heap.size w X) => pstep_any c X (HG.out.on hX) (HSM.out c (List.mem_of_getElem? hc)))
     obtain ⟨st, hst⟩ : ∃ st, psStep c.data.toList = st := ⟨_, rfl⟩
     have HC := hid hc
     clear hc
     cases hok : psOk c.data.toList with
     | true =>
      have HOK := hid hok
      rw [hok, hst] at HST
      simp only [pv] at HST
      clear hok
      have hbs : w.heap.size + 1 < wr.heap.size := HR.out.lt
      go_wp2_with fail
      go_at_call 79
      refine (HST.out _ hbwr).mono ?_
      rintro e w1 ⟨rfl, hb1⟩
      have HR1 := hid (HR.out.onto (hb1.block _ hbs))
      have hs1 := hb1.size
      have hs2 : w.heap.size + 1 < w1.heap.size := by omega
      have hs3 : ¬ w1.heap.size = w.heap.size + 1 := by omega
      obtain ⟨u0, e0⟩ := HR1.out.cell (o := j * 3) (by omega)
      obtain ⟨u1, e1⟩ := HR1.out.cell (o := j * 3 + 1) (by omega)
      obtain ⟨u2, e2⟩ := HR1.out.cell (o := j * 3 + 2) (by omega)
      have z0 := HR1.out.frozen
      go_wp2_with fail
      go_roundw
      case rel =>
       subst hst
       refine ⟨j + 1, hlt, val_int (by omega), Below.alloc (Below.setCell (Below.setCell (Below.setCell (hbw.trans (hb1.mono (by omega))) (Nat.le_refl _) _) (Nat.le_refl _) _) (Nat.le_refl _) _) (by simp; omega) _, row_alloc (put3_row HR1.out _ _ _ _ _) _, ppart_alloc (ppart_next HPP.out (hb1.block _ hbs) HR1.out (by omega) HC.out HOK.out) _⟩
      case measure => simp [intOf]; omega
     | false =>
      rw [hok, hst] at HST
      simp only [pv] at HST
      have HN := hid (show parseP s.data.toList = none by
       rw [HH.out, if_neg]
       rw [← HPC.out]
       intro hall
       rw [List.all_eq_true] at hall
       have := hall _ (List.mem_map.2 ⟨c, List.mem_of_getElem? HC.out, rfl⟩)
       rw [hok] at this; cases this)
      clear hok
      go_wp2_with fail
      go_at_call 79
      refine (HST.out _ hbwr).mono ?_
      rintro e w1 ⟨rfl, hb1⟩
      go_wp2_with fail
      go_ret2
      exact ⟨Or.inr ⟨HN.out, rfl⟩, valloc_bel (vonto hbwr hb1) _⟩
    ·have hjP : j = P.length := by omega
     subst hjP
     go_wp2_with fail
     go_ret2
     refine ⟨Or.inl ⟨_, P.map (fun c => psStep c.data.toList), ?_, rfl, ?_⟩, hbA.trans (hbw.mono (Nat.le_succ _))⟩
     ·rw [HH.out, if_pos, ← HPC.out, List.map_map]; rfl
      rw [← HPC.out, List.all_eq_true]
      intro x hx
      obtain ⟨c, hc, rfl⟩ := List.mem_map.1 hx
      obtain ⟨k, hk⟩ := List.getElem?_of_mem hc
      exact (HPP.out k c (lt_of_some hk) hk).1
     ·refine ⟨⟨w.heap.size + 1, 0, none⟩, ⟨_, P.length, by rw [List.length_map]; rfl, by simp, by unfold maxLen; omega, fun _ => rfl⟩, fun i q hq => ?_⟩
      rw [List.getElem?_map] at hq
      obtain ⟨c, hc, rfl⟩ := Option.map_eq_some_iff.1 hq
      obtain ⟨-, g1, g2, g3⟩ := HPP.out i c (lt_of_some hc) hc
      rw [add_at]
      exact ⟨g1, g2, g3, step_size c (HSM.out c (List.mem_of_getElem? hc))⟩
  ·have HP := hid (show parseP s.data.toList = none by unfold parseP; rw [if_neg hne, if_pos (by rw [HF.out]; exact h47)])
   have h47' : ¬ (s[0].toNat : Int) = 47 := fun hc => h47 (UInt8.toNat_inj.1 (by rw [show (47 : UInt8).toNat = 47 from rfl]; omega))
   clear h47 HF
   go_enter Tryz.func36, Tryz.ntmps36
   go_wp2_with fail
   all_goals go_ret2
   all_goals exact ⟨Or.inr ⟨HP.out, rfl⟩, Below.refl _ _⟩
def renB : Go.Shelf.Ren := ⟨fun | 166 => 158 | 167 => 157 | 240 => 217 | 276 => 259 | n => n, fun | 0 => 0 | 3 => 3 | 4 => 4 | 5 => 5 | 9 => 9 | 20 => 20 | 37 => 116 | 70 => 210 | 72 => 212 | 75 => 183 | 80 => 214 | 164 => 276 | n => n, fun | n => n⟩
theorem lays167 : Go.Proofs.Lays.n167 Tryz.prog renB := {
 mixed := by kernel_rfl
 f167 := Tryz.func157.trans (congrArg some (by kernel_rfl))
 f240 := Tryz.func217.trans (congrArg some (by kernel_rfl))
 f276 := Tryz.func259.trans (congrArg some (by kernel_rfl))
 t0 := Tryz.underlying0
 a0 := Tryz.isAgg0
 z0 := Tryz.sizeOf0
 v0 := Tryz.zeroValue0
 t4 := Tryz.underlying4
 a4 := Tryz.isAgg4
 z4 := Tryz.sizeOf4
 v4 := Tryz.zeroValue4
 t5 := Tryz.underlying5
 a5 := Tryz.isAgg5
 z5 := Tryz.sizeOf5
 v5 := Tryz.zeroValue5
 t9 := Tryz.underlying9
 a9 := Tryz.isAgg9
 z9 := Tryz.sizeOf9
 v9 := Tryz.zeroValue9
 t20 := Tryz.underlying20
 a20 := Tryz.isAgg20
 z20 := Tryz.sizeOf20
 v20 := Tryz.zeroValue20
 t37 := Tryz.underlying116
 a37 := Tryz.isAgg116
 z37 := Tryz.sizeOf116
 v37 := Tryz.zeroValue116
 t70 := Tryz.underlying210
 a70 := Tryz.isAgg210
 z70 := Tryz.sizeOf210
 v70 := Tryz.zeroValue210
 t72 := Tryz.underlying212
 a72 := Tryz.isAgg212
 z72 := Tryz.sizeOf212
 v72 := Tryz.zeroValue212
 t75 := Tryz.underlying183
 a75 := Tryz.isAgg183
 z75 := Tryz.sizeOf183
 v75 := Tryz.zeroValue183
 t164 := Tryz.underlying276
 a164 := Tryz.isAgg276
 z164 := Tryz.sizeOf276
 v164 := Tryz.zeroValue276 }
theorem lays166 : Go.Proofs.Lays.n166 Tryz.prog renB := {
 mixed := by kernel_rfl
 f166 := Tryz.func158.trans (congrArg some (by kernel_rfl))
 f240 := lays167.f240
 f276 := lays167.f276
 t0 := lays167.t0
 a0 := lays167.a0
 z0 := lays167.z0
 v0 := lays167.v0
 t3 := Tryz.underlying3
 a3 := Tryz.isAgg3
 z3 := Tryz.sizeOf3
 v3 := Tryz.zeroValue3
 t4 := lays167.t4
 a4 := lays167.a4
 z4 := lays167.z4
 v4 := lays167.v4
 t9 := lays167.t9
 a9 := lays167.a9
 z9 := lays167.z9
 v9 := lays167.v9
 t20 := lays167.t20
 a20 := lays167.a20
 z20 := lays167.z20
 v20 := lays167.v20
 t37 := lays167.t37
 a37 := lays167.a37
 z37 := lays167.z37
 v37 := lays167.v37
 t70 := lays167.t70
 a70 := lays167.a70
 z70 := lays167.z70
 v70 := lays167.v70
 t72 := lays167.t72
 a72 := lays167.a72
 z72 := lays167.z72
 v72 := lays167.v72
 t75 := lays167.t75
 a75 := lays167.a75
 z75 := lays167.z75
 v75 := lays167.v75
 t164 := lays167.t164
 a164 := lays167.a164
 z164 := lays167.z164
 v164 := lays167.v164 }
theorem extraB : Builder.Extra Tryz.prog renB := {
 sizeBuilder := by kernel_rfl
 liesBuilder := by kernel_rfl
 t5 := lays167.t5
 a5 := lays167.a5
 z5 := lays167.z5
 v5 := lays167.v5
 infoByte := by kernel_rfl
 cellsByte := by kernel_rfl
 sizeByte := by kernel_rfl
 neB5 := by decide }
def Bld (B b : Nat) (l : List UInt8) (w : World) : Prop := Lib.IsBuilderF 212 5 B b (Lib.byteCells l) w
theorem Bld.onto {B b : Nat} {l : List UInt8} {w w' : World} (h : Bld B b l w) (hb : Below w.heap.size w w') : Bld B b l w' := by
 have one : ∀ p, Lib.BuilderAtF 212 5 B b p (Lib.byteCells l) w → Lib.BuilderAtF 212 5 B b p (Lib.byteCells l) w' := by
  rintro p ⟨hB, v, h1, h2, h3⟩
  refine ⟨hB, v, ?_, ⟨h2.1, ?_⟩, h3⟩
  ·rw [hb.block b (Array.getElem?_eq_some_iff.1 h1).1]; exact h1
  ·rcases h2.2 with hn | ⟨g, cap, cur, fz, rfl, hb2, hgg, rest⟩
   ·exact .inl hn
   ·exact .inr ⟨g, cap, cur, fz, rfl, hb2, by rw [hb.block g (Array.getElem?_eq_some_iff.1 hgg).1]; exact hgg, rest⟩
 exact h.elim (fun x => .inl (one _ x)) (fun x => .inr (one _ x))
theorem wbyte_any (B b : Nat) (l : List UInt8) (c : UInt8) (w : World) (h : Bld B b l w) (hlen : l.length + 1 ≤ 140737488355328) (hB : B ≤ w.heap.size) :
  Calls Tryz.prog 157 #[.pointer (some ⟨b, 0, none⟩), .int .u8 c.toNat] w fun e w' => e = .returned .nilIface ∧ Bld B b (l ++ [c]) w' ∧ Below B w w' ∧ Lib.OthersKept 5 (some b) w w' := by
 have := Any.Builder_WriteByte_k lays167 extraB B b (Lib.byteCells l) c.toNat w h (by rw [Lib.byteCells_length]; exact hlen) hB
 refine Calls.mono this ?_
 rintro e w' ⟨rfl, h1, h2, h3⟩
 refine ⟨rfl, .inr ?_, h2, h3⟩
 rw [show Lib.byteCells (l ++ [c]) = Lib.byteCells l ++ [.int .u8 c.toNat] by simp [Lib.byteCells]]
 exact h1
theorem wstr_any (B b : Nat) (l : List UInt8) (s : ByteArray) (w : World) (h : Bld B b l w) (hlen : l.length + s.size ≤ 140737488355328) (hB : B ≤ w.heap.size) :
  Calls Tryz.prog 158 #[.pointer (some ⟨b, 0, none⟩), .string s] w fun e w' => e = .returned (.tuple #[.int .i64 s.size, .nilIface]) ∧ Bld B b (l ++ s.data.toList) w' ∧ Below B w w' ∧ Lib.OthersKept 5 (some b) w w' := by
 have := Any.Builder_WriteString_k lays166 extraB B b (Lib.byteCells l) s w h (by rw [Lib.byteCells_length]; exact hlen) hB
 refine Calls.mono this ?_
 rintro e w' ⟨rfl, h1, h2, h3⟩
 refine ⟨rfl, .inr ?_, h2, h3⟩
 rw [show Lib.byteCells (l ++ s.data.toList) = Lib.byteCells l ++ Lib.strCells s by simp [Lib.byteCells, Lib.strCells]]
 exact h1
theorem heap_new (w : World) (o : Obj) : (w.alloc o).heap[w.heap.size]? = some o := by simp only [World.alloc, Array.getElem?_push_size]
theorem Bld.lt {B b : Nat} {l : List UInt8} {w : World} (h : Bld B b l w) : b < w.heap.size := h.elim (fun x => x.lt) (fun x => x.lt)
theorem bld_new (w : World) : Bld w.heap.size w.heap.size [] (w.alloc (.cells #[.pointer none, .slice none 0 0] 212)) :=
 .inl ⟨Nat.le_refl _, .slice none 0 0, heap_new _ _, World.ownsRowF_nil _ _ _ _, by simp [Value.ownBlock]⟩
theorem others_cell {b : Option Nat} {w w' : World} (h : Lib.OthersKept 5 b w w') {k : Nat} {c : Array Value} {ty : TypeId} {fz : Nat × Nat} (hk : w.heap[k]? = some (.cells c ty fz)) (hb : some k ≠ b) (ht : ty ≠ 5) : w'.heap[k]? = some (.cells c ty fz) :=
 h k _ hk hb (fun c' fz' e => ht (by injection e))
def stepT (s : PStep) : List UInt8 := if s.place = true then Lib.itoa s.at_ else keyT s.key.data.toList
def textP (ps : List PStep) : List UInt8 := ps.flatMap fun s => 47 :: stepT s
def Small (s : PStep) : Prop := s.key.size ≤ 1000000 ∧ -9223372036854775808 ≤ s.at_ ∧ s.at_ ≤ 9223372036854775807
theorem stepT_len {s : PStep} (h : Small s) : (stepT s).length ≤ 2000002 := by
 unfold stepT
 split
 ·have := Lib.itoa_length_le s.at_ h.2.1 h.2.2; omega
 ·have h1 := esc_len s.key.data.toList
  have h2 := h.1
  rw [size_list] at h1
  unfold keyT
  split
  ·simp only [List.length_append, List.length_cons, List.length_nil]; omega
  ·omega
theorem textP_len : ∀ (ps : List PStep), (∀ s ∈ ps, Small s) → (textP ps).length ≤ ps.length * 2000003
 | [], _ => Nat.zero_le _
 | s :: r, h => by
  have h1 := textP_len r fun t ht => h t (List.mem_cons_of_mem _ ht)
  have h2 := stepT_len (h s (List.mem_cons_self ..))
  show (47 :: stepT s ++ textP r).length ≤ _
  rw [List.length_append, List.length_cons, List.length_cons]
  omega
theorem textP_snoc {ps : List PStep} {j : Nat} {s : PStep} (h : ps[j]? = some s) : textP (ps.take (j + 1)) = (textP (ps.take j) ++ [47]) ++ stepT s := by
 obtain ⟨q1, q2⟩ := List.getElem?_eq_some_iff.1 h
 rw [List.take_succ_eq_append_getElem q1, q2]
 simp [textP]
set_option maxRecDepth 100000 in
set_option maxHeartbeats 1000000 in
theorem ptext_any (ps : List PStep) (v : Value) (w : World) (hp : InP w ps v) (hg : Glob5 w) (hl : ps.length ≤ 1000000) (hk : ∀ s ∈ ps, Small s) :
  Calls Tryz.prog 107 #[v] w fun e w' => e = .returned (.string (mkS (textP ps))) ∧ Below w.heap.size w w' := by
 obtain ⟨a, ⟨o, c, rfl, g1, g2, g3⟩, gc⟩ := hp
 unfold maxLen at g2
 have GC := hid gc
 have GK := hid hk
 have HG := hid hg
 have hbn := bld_new w
 have HBN := hid hbn
 clear gc hbn hk hg
 go_enter Tryz.func107, Tryz.ntmps107
 go_wp2_with fail
 go_loopw [8] (fun i wr => ∃ (j : Nat), i = .int .i64 j ∧ j ≤ ps.length ∧ Hid (Bld w.heap.size w.heap.size (textP (ps.take j)) wr) ∧ Hid (Below w.heap.size w wr)) (fun i _ => ps.length - (intOf i).toNat)
 case atStart => exact ⟨0, rfl, Nat.zero_le _, HBN.out, valloc_bel (Below.refl _ _) _⟩
 case round =>
  obtain ⟨j, rfl, hj, HD, HB⟩ := hrel
  by_cases hlt : j < ps.length
  ·obtain ⟨s, hs⟩ : ∃ s, ps[j]? = some s := ⟨ps[j], List.getElem?_eq_getElem hlt⟩
   obtain rfl := g3 (by omega)
   obtain ⟨c0, c1, c2, -⟩ := GC.out j s hs
   replace c0 := keepCell HB.out c0
   replace c1 := keepCell HB.out c1
   replace c2 := keepCell HB.out c2
   have hsm := GK.out s (List.mem_of_getElem? hs)
   have hln := textP_len (ps.take j) fun t ht => GK.out t (List.mem_of_mem_take ht)
   have hsl := stepT_len hsm
   have HT := hid (textP_snoc hs)
   have hlj : (textP (ps.take j)).length ≤ 2000003000000 := by
    rw [List.length_take] at hln
    refine Nat.le_trans hln (Nat.le_trans (Nat.mul_le_mul_right _ (Nat.le_trans (Nat.min_le_left _ _) (Nat.le_trans hj hl))) (by decide))
   have hltw := HD.out.lt
   have hsz := HB.out.size
   generalize hl0 : textP (ps.take j) = l0 at *
   have C1 := hid (fun (X : World) (hX : Below wr.heap.size wr X) => show Calls Tryz.prog 157 #[.pointer (some ⟨w.heap.size, 0, none⟩), .int .u8 47] X fun e w' => e = .returned .nilIface ∧ Bld w.heap.size w.heap.size (l0 ++ [47]) w' ∧ Below w.heap.size X w' ∧ Lib.OthersKept 5 (some w.heap.size) X w' from wbyte_any w.heap.size w.heap.size l0 47 X (HD.out.onto hX) (by omega) (Nat.le_trans hsz hX.size))
   clear hs hl0 hln
   obtain ⟨key, at_, pl⟩ := s
   simp only at c0 c1 c2
   go_wp2_with fail
   go_at_call 157
   refine (C1.out _ (valloc_bel (Below.refl _ _) _)).mono ?_
   rintro e w1 ⟨rfl, d1, b1, k1⟩
   have hbox := others_cell k1 (heap_new wr _) (by intro h; injection h with h; omega) (by decide)
   have x0 := cell_of_row w1 wr.heap.size 0 _ _ _ hbox
   have x1 := cell_of_row w1 wr.heap.size 1 _ _ _ hbox
   have x2 := cell_of_row w1 wr.heap.size 2 _ _ _ hbox
   simp at x0 x1 x2
   have HB1 := hid ((valloc_bel HB.out _).trans b1)
   have hs1 := HB1.out.size
   have HD1 := hid d1
   have hg1 := HG.out.on HB1.out
   clear hbox k1 d1 b1 c0 c1 c2 C1
   cases pl with
   | true =>
    have CI := hid (Tryz.strconv_Itoa at_ hsm.2.1 hsm.2.2 w1 hg1.tab)
    unfold stepT at HT hsl
    simp only [if_true] at HT hsl
    have CW := hid (fun (X : World) (hX : Below w1.heap.size w1 X) => wstr_any w.heap.size w.heap.size (l0 ++ [47]) ⟨(Lib.itoa at_).toArray⟩ X (HD1.out.onto hX) (by simp [ByteArray.size]; omega) (Nat.le_trans hs1 hX.size))
    clear hsm hg1 hsl
    go_wp2_with fail
    go_at_call 159
    refine CI.out.mono ?_
    rintro e w2 ⟨rfl, k2, os2, hw2⟩
    have b2 : Below w1.heap.size w1 w2 := by rw [hw2]; exact Lib.below_grow _ _ (Nat.le_refl _) _ _
    have HB2 := hid (vonto HB1.out b2)
    have C3 := hid (CW.out w2 b2)
    clear CW b2 hw2
    go_wp2_with fail
    go_at_call 158
    refine C3.out.mono ?_
    rintro e w3 ⟨rfl, d3, b3, -⟩
    have HD3 := hid d3
    have HB3 := hid (HB2.out.trans b3)
    clear d3 b3
    go_wp2_with fail
    go_roundw
    case rel => exact ⟨j + 1, val_int (by omega), hlt, by rw [HT.out]; exact HD3.out, HB3.out⟩
    case measure => simp [intOf]; omega
   | false =>
    have CI := hid (ktext_any key w1 hg1 (Nat.le_trans hsm.1 (by decide)))
    unfold stepT at HT hsl
    simp only [Bool.false_eq_true, if_false] at HT hsl
    have CW := hid (fun (X : World) (hX : Below w1.heap.size w1 X) => wstr_any w.heap.size w.heap.size (l0 ++ [47]) (mkS (keyT key.data.toList)) X (HD1.out.onto hX) (by rw [← size_list, mkS_list]; simp; omega) (Nat.le_trans hs1 hX.size))
    rw [mkS_list] at CW
    clear hsm hg1 hsl
    go_wp2_with fail
    go_at_call 133
    refine CI.out.mono ?_
    rintro e w2 ⟨rfl, b2⟩
    have HB2 := hid (vonto HB1.out b2)
    have C3 := hid (CW.out w2 b2)
    clear CW b2
    go_wp2_with fail
    go_at_call 158
    refine C3.out.mono ?_
    rintro e w3 ⟨rfl, d3, b3, -⟩
    have HD3 := hid d3
    have HB3 := hid (HB2.out.trans b3)
    clear d3 b3
    go_wp2_with fail
    go_roundw
    case rel => exact ⟨j + 1, val_int (by omega), hlt, by rw [HT.out]; exact HD3.out, HB3.out⟩
    case measure => simp [intOf]; omega
  ·have htk : ps.take j = ps := List.take_of_length_le (by omega)
   rw [htk] at HD
   have hsz := HB.out.size
   have CS := hid (Tryz.Builder_String_any_k w.heap.size w.heap.size (textP ps) wr HD.out hsz)
   clear htk
   go_wp2_with fail
   go_at_call 160
   refine CS.out.mono ?_
   rintro e w1 ⟨rfl, -, b1, -⟩
   have HB1 := hid (HB.out.trans b1)
   clear b1
   go_wp2_with fail
   go_ret
   exact ⟨rfl, HB1.out⟩
end Go.Proofs.YteimbjamnfkapaaGreatDoor
