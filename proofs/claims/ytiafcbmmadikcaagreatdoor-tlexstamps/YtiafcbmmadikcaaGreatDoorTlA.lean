/- tlex.among, clamp, rowEnd, lineBytes: walked. -/
import Derived.Test.YtiafcbmmadikcaaGreatDoorMathTs
import Derived.Test.YtiafcbmmadikcaaGreatDoorEscSide
import Derived.Lib.OthersKept
import Derived.Deep.LoopGhost
import Derived.Deep.QuietTactic
import Derived.BigQuiet
import Derived.WalkMore
namespace Go.Proofs.YtiafcbmmadikcaaGreatDoor
open Go.RowKit

/-- is a byte one of some? -/
def inT (l : List UInt8) (b : UInt8) : Bool := l.any (fun x => decide (x.toNat = b.toNat))
theorem tix_ge (l : List UInt8) (b : UInt8) : -1 ≤ Lib.indexByte l b := by
  rw [ixB_run]; split <;> omega
theorem tix_in (l : List UInt8) (b : UInt8) : decide (0 ≤ Lib.indexByte l b) = inT l b := by
  induction l with
  | nil => rfl
  | cons a l ih =>
    unfold Lib.indexByte inT
    rw [List.any_cons]
    by_cases h : a = b
    · subst h; simp
    · have h2 : ¬ a.toNat = b.toNat := fun e => h (UInt8.toNat_inj.1 e)
      have h3 : (a == b) = false := by simpa using h
      rw [h3, decide_eq_false h2, Bool.false_or]
      have e : (l.any fun x => decide (x.toNat = b.toNat)) = inT l b := rfl
      rw [e, ← ih]
      simp only [Bool.false_eq_true, if_false]
      by_cases h4 : Lib.indexByte l b = -1
      · rw [h4]; rfl
      · have h5 : (Lib.indexByte l b == -1) = false := by simpa using h4
        rw [h5]
        simp only [Bool.false_eq_true, if_false]
        have h6 : -1 ≤ Lib.indexByte l b := tix_ge l b
        exact decide_eq_decide.2 (by omega)
theorem tix_any (s : ByteArray) (b : UInt8) (w : World) : Calls Tryz.prog 59 #[.string s, .int .u8 (b.toNat : Int)] w fun e w' => e = .returned (.int .i64 (Lib.indexByte s.data.toList b)) ∧ w' = w := by
  have := Tryz.strings_IndexByte s (b.toNat : Int) w
  have e : ((b.toNat : Int).toNat).toUInt8 = b := by simp
  rw [e] at this; exact this
set_option maxRecDepth 100000 in
theorem tamong_any (s : ByteArray) (b : UInt8) (w : World) :
    Calls Tryz.prog 26 #[.string s, .int .u8 (b.toNat : Int)] w fun e w' => e = .returned (.bool (inT s.data.toList b)) ∧ w' = w := by
  have HI := hid (fun X => tix_any s b X)
  rw [← tix_in]
  obtain ⟨R, hR⟩ : ∃ R, Lib.indexByte s.data.toList b = R := ⟨_, rfl⟩
  rw [hR] at HI ⊢
  clear hR
  obtain ⟨n, hn⟩ : ∃ n, b.toNat = n := ⟨_, rfl⟩
  rw [hn] at HI ⊢
  clear hn
  go_enter Tryz.func26, Tryz.ntmps26
  go_wp2_with (go_at_call 59; go_must (refine (HI.out _).mono ?_; rintro e w1 ⟨rfl, rfl⟩))
  go_ret
  exact ⟨rfl, rfl⟩
theorem tamong_of (s : ByteArray) (p : UInt8 → Bool) (hp : ∀ b, inT s.data.toList b = p b) (b : UInt8) (w : World) :
    Calls Tryz.prog 26 #[.string s, .int .u8 (b.toNat : Int)] w fun e w' => e = .returned (.bool (p b)) ∧ w' = w := by
  have := tamong_any s b w
  rw [hp] at this; exact this
set_option maxRecDepth 100000 in
theorem tclamp_any (t : ByteArray) (a : Int) (w : World) :
    Calls Tryz.prog 24 #[.string t, .int .i64 a] w fun e w' => e = .returned (.int .i64 (plc t.data.toList a)) ∧ w' = w := by
  have HZ := hid (size_list t)
  go_enter Tryz.func24, Tryz.ntmps24
  go_wp2
  all_goals (go_ret; exact ⟨ret_int (by unfold plc; rw [HZ.out]; (repeat' split) <;> omega), rfl⟩)
theorem Tryz.trimT (s cs : ByteArray) (w : World) (h : cs.size ≤ 100) (ha : ∀ (j : Nat) b, cs.data.toList[j]? = some b → b.toNat < 128) :
    Calls Tryz.prog 62 #[.string s, .string cs] w fun e w' => e = .returned (.string (mkS (Lib.trimLeftS s.data.toList cs.data.toList))) ∧ Below w.heap.size w w' :=
  Any.strings_TrimLeft_laid Tryz.lays161 (by kernel_rfl) s cs w (by omega) ha
set_option maxRecDepth 100000 in
set_option maxHeartbeats 1000000 in
theorem trowEnd_of (t : ByteArray) (a : Nat) (cs : ByteArray) (p : UInt8 → Bool) (hp : (fun b => cs.data.toList.contains b) = p) (hc : cs.size ≤ 100) (ha : ∀ (j : Nat) b, cs.data.toList[j]? = some b → b.toNat < 128) (w : World) (ht : t.size ≤ 1000000) (hat : a ≤ t.size) :
    Calls Tryz.prog 28 #[.string t, .int .i64 (a : Int), .string cs] w fun e w' => e = .returned (.int .i64 (a + run p (t.data.toList.drop a) : Nat)) ∧ Below w.heap.size w w' := by
  obtain ⟨u, hu⟩ : ∃ u, t.extract a t.size = u := ⟨_, rfl⟩
  have hul : u.data.toList = t.data.toList.drop a := by rw [← hu, drop_list]
  obtain ⟨x, hx⟩ : ∃ x, mkS (u.data.toList.drop (run p u.data.toList)) = x := ⟨_, rfl⟩
  have HT : Hid (∀ X, Calls Tryz.prog 62 #[.string u, .string cs] X fun e w' => e = .returned (.string x) ∧ Below X.heap.size X w') := fun X => by
    have := Tryz.trimT u cs X hc ha
    rw [Lib.trimLeftS, hp, dropW, hx] at this; exact this
  have hr := run_leE p u.data.toList
  have hxs : x.size + run p u.data.toList = t.size - a := by
    rw [← size_list, ← hx, mkS_list, List.length_drop, hul, List.length_drop, size_list]; rw [hul, List.length_drop, size_list] at hr; omega
  rw [← hul]
  clear hul hx hr
  generalize run p u.data.toList = n at *
  have h1 : x.size ≤ t.size := by omega
  have HX := hid hxs
  clear hxs
  go_enter Tryz.func28, Tryz.ntmps28
  go_wp2_with (go_at_call 62; go_must (refine (HT.out _).mono ?_; rintro e w1 ⟨rfl, hb⟩))
  go_ret
  exact ⟨ret_int (by have := HX.out; omega), hb⟩
theorem tbk_in : (fun b => (⟨#[32, 9]⟩ : ByteArray).data.toList.contains b) = bkB := bk_in
theorem ascii_of (cs : ByteArray) (h : cs.data.toList.all (fun b => decide (b.toNat < 128)) = true) : ∀ (j : Nat) b, cs.data.toList[j]? = some b → b.toNat < 128 := fun j b hb => by
  have := List.all_eq_true.1 h b (List.mem_of_getElem? hb)
  simpa using this
theorem trow_bk (t : ByteArray) (a : Nat) (w : World) (ht : t.size ≤ 1000000) (hat : a ≤ t.size) :
    Calls Tryz.prog 28 #[.string t, .int .i64 (a : Int), .string ⟨#[32, 9]⟩] w fun e w' => e = .returned (.int .i64 (a + run bkB (t.data.toList.drop a) : Nat)) ∧ Below w.heap.size w w' :=
  trowEnd_of t a _ bkB tbk_in (by decide) (ascii_of _ (by decide)) w ht hat
/-- a plain value's bytes -/
def rowC (b : UInt8) : Bool := brI b || decide (b.toNat = 43) || decide (b.toNat = 46) || decide (b.toNat = 58)
theorem byte_all (p : UInt8 → Bool) (h : (List.range 256).all (fun n => p (UInt8.ofNat n)) = true) (b : UInt8) : p b = true := by
  have := List.all_eq_true.1 h b.toNat (List.mem_range.2 b.toNat_lt)
  simpa using this
theorem byte_eq (p q : UInt8 → Bool) (h : (List.range 256).all (fun n => p (UInt8.ofNat n) == q (UInt8.ofNat n)) = true) (b : UInt8) : p b = q b := by
  have := byte_all (fun b => p b == q b) h b
  simpa using this
theorem run_ix (s : List UInt8) : Lib.indexByte s 10 = if run noL s < s.length then (run noL s : Int) else -1 := by
  have e : neB 10 = noL := rfl
  rw [ixB_run, e]
set_option maxRecDepth 100000 in
set_option maxHeartbeats 1000000 in
theorem tline_any (s : ByteArray) (w : World) : Calls Tryz.prog 48 #[.string s] w fun e w' => e = .returned (.int .i64 (lnB s.data.toList : Nat)) ∧ w' = w := by
  have H1 : Hid (∀ X, Calls Tryz.prog 47 #[.string s, .string ⟨#[10]⟩] X fun e w' => e = .returned (.bool (decide (bt s.data.toList 0 = 10))) ∧ w' = X) := fun X => by
    have := Tryz.strings_HasPrefix s ⟨#[10]⟩ X
    rw [show (⟨#[10]⟩ : ByteArray).data.toList = [10] from rfl, hp1] at this; exact this
  have H2 : Hid (∀ X, Calls Tryz.prog 47 #[.string s, .string ⟨#[13, 10]⟩] X fun e w' => e = .returned (.bool (decide (bt s.data.toList 0 = 13 ∧ bt s.data.toList 1 = 10))) ∧ w' = X) := fun X => by
    have := Tryz.strings_HasPrefix s ⟨#[13, 10]⟩ X
    rw [show (⟨#[13, 10]⟩ : ByteArray).data.toList = [13, 10] from rfl, hp2] at this; exact this
  have H3 : Hid (∀ X, Calls Tryz.prog 47 #[.string s, .string ⟨#[35]⟩] X fun e w' => e = .returned (.bool (decide (bt s.data.toList 0 = 35))) ∧ w' = X) := fun X => by
    have := Tryz.strings_HasPrefix s ⟨#[35]⟩ X
    rw [show (⟨#[35]⟩ : ByteArray).data.toList = [35] from rfl, hp1] at this; exact this
  have H4 : Hid (∀ X, Calls Tryz.prog 59 #[.string s, .int .u8 10] X fun e w' => e = .returned (.int .i64 (if run noL s.data.toList < s.size then (run noL s.data.toList : Int) else -1)) ∧ w' = X) := fun X => by
    have := tix_any s 10 X
    rw [run_ix, size_list] at this; exact this
  have hr := run_leE noL s.data.toList
  rw [size_list] at hr
  by_cases h1 : bt s.data.toList 0 = 10
  · rw [decide_eq_true h1] at H1
    have HE := hid (show lnB s.data.toList = 1 by unfold lnB; rw [if_pos h1])
    clear H2 H3 H4 h1
    go_enter Tryz.func48, Tryz.ntmps48
    go_wp2_with (go_at_call 47; go_must (refine (H1.out _).mono ?_; rintro e w1 ⟨rfl, rfl⟩))
    go_ret
    exact ⟨ret_int (by rw [HE.out]; rfl), rfl⟩
  · rw [decide_eq_false h1] at H1
    by_cases h2 : bt s.data.toList 0 = 13 ∧ bt s.data.toList 1 = 10
    · rw [decide_eq_true h2] at H2
      have HE := hid (show lnB s.data.toList = 2 by unfold lnB; rw [if_neg h1, if_pos h2])
      clear h1 h2 H3 H4
      go_enter Tryz.func48, Tryz.ntmps48
      go_wp2_with (go_at_call 47; go_must (first | ((with_reducible refine (H2.out _).mono ?_); rintro e w1 ⟨rfl, rfl⟩) | ((with_reducible refine (H1.out _).mono ?_); rintro e w1 ⟨rfl, rfl⟩)))
      go_ret
      exact ⟨ret_int (by rw [HE.out]; rfl), rfl⟩
    · rw [decide_eq_false h2] at H2
      by_cases h3 : bt s.data.toList 0 = 35
      · rw [decide_eq_true h3] at H3
        have HE := hid (show lnB s.data.toList = run noL s.data.toList by unfold lnB; rw [if_neg h1, if_neg h2, if_pos h3])
        clear h1 h2 h3
        generalize run noL s.data.toList = n at *
        by_cases hn : n < s.size
        · rw [if_pos hn] at H4
          go_enter Tryz.func48, Tryz.ntmps48
          go_wp2_with (first
            | (go_at_call 47; go_must (first | ((with_reducible refine (H2.out _).mono ?_); rintro e w1 ⟨rfl, rfl⟩) | ((with_reducible refine (H1.out _).mono ?_); rintro e w1 ⟨rfl, rfl⟩) | ((with_reducible refine (H3.out _).mono ?_); rintro e w1 ⟨rfl, rfl⟩)))
            | (go_at_call 59; go_must ((with_reducible refine (H4.out _).mono ?_); rintro e w1 ⟨rfl, rfl⟩)))
          go_ret
          exact ⟨ret_int (by rw [HE.out]), rfl⟩
        · rw [if_neg hn] at H4
          go_enter Tryz.func48, Tryz.ntmps48
          go_wp2_with (first
            | (go_at_call 47; go_must (first | ((with_reducible refine (H2.out _).mono ?_); rintro e w1 ⟨rfl, rfl⟩) | ((with_reducible refine (H1.out _).mono ?_); rintro e w1 ⟨rfl, rfl⟩) | ((with_reducible refine (H3.out _).mono ?_); rintro e w1 ⟨rfl, rfl⟩)))
            | (go_at_call 59; go_must ((with_reducible refine (H4.out _).mono ?_); rintro e w1 ⟨rfl, rfl⟩)))
          go_ret
          exact ⟨ret_int (by rw [HE.out]; omega), rfl⟩
      · rw [decide_eq_false h3] at H3
        have HE := hid (show lnB s.data.toList = 0 by unfold lnB; rw [if_neg h1, if_neg h2, if_neg h3])
        clear h1 h2 h3 H4
        go_enter Tryz.func48, Tryz.ntmps48
        go_wp2_with (go_at_call 47; go_must (first | ((with_reducible refine (H2.out _).mono ?_); rintro e w1 ⟨rfl, rfl⟩) | ((with_reducible refine (H1.out _).mono ?_); rintro e w1 ⟨rfl, rfl⟩) | ((with_reducible refine (H3.out _).mono ?_); rintro e w1 ⟨rfl, rfl⟩)))
        go_ret
        exact ⟨ret_int (by rw [HE.out]; rfl), rfl⟩
end Go.Proofs.YtiafcbmmadikcaaGreatDoor
