/- What chapter 10 passes over, and digits with strokes between them: plain mathematics. -/
import Derived.Test.YtiaepihdfbahaaaGreatDoorABase
import Derived.Lib.Replace
import Derived.Lib.SplitLaws
import Derived.Lib.IndexBytes
import Derived.Test.YtiaepihdfbahaaaGreatDoorAEscSide
import Derived.Lib.OthersKept
import Derived.Deep.LoopGhost
import Derived.Deep.QuietTactic
import Derived.BigQuiet
import Derived.WalkMore
import Derived.Lib.Strings
import Derived.Lib.TrimByte
import Derived.Lib.ParseIntB
import Derived.Lib.ItoaNum
/- Cutting texts at a byte; days, times and stamps of chapter 10: plain mathematics. -/
/- tlex.among, clamp, rowEnd, lineBytes: walked. -/
/- The mathematics of numbers as texts. -/
namespace Go.Proofs.YtiaepihdfbahaaaGreatDoor

/-- blanks, lines' ends and remarks at a text's head: how many bytes; within a remark -/
def skM : Bool → List UInt8 → Nat
  | _, [] => 0
  | false, b :: l => if bkB b = true ∨ b.toNat = 10 ∨ (b.toNat = 13 ∧ bt l 0 = 10) then 1 + skM false l else if b.toNat = 35 then 1 + skM true l else 0
  | true, b :: l => if b.toNat = 10 then 1 + skM false l else 1 + skM true l
def skT (lines : Bool) (l : List UInt8) : Nat := if lines = true then skM false l else run bkB l
theorem run_nob {p : UInt8 → Bool} {l : List UInt8} (h : run p l = 0) (b : UInt8) (m : List UInt8) (hl : l = b :: m) : p b = false := by
  subst hl
  cases hp : p b with
  | false => rfl
  | true => unfold run at h; rw [List.takeWhile_cons_of_pos hp] at h; cases h
theorem run_drop0 (p : UInt8 → Bool) : ∀ l : List UInt8, run p (l.drop (run p l)) = 0
  | [] => rfl
  | b :: l => by
    by_cases h : p b = true
    · have e : run p (b :: l) = run p l + 1 := by unfold run; rw [List.takeWhile_cons_of_pos h]; rfl
      rw [e, List.drop_succ_cons]; exact run_drop0 p l
    · have e : run p (b :: l) = 0 := by unfold run; rw [List.takeWhile_cons_of_neg h]; rfl
      rw [e]; exact e
/-- within a remark: up to the line's end -/
def noL (b : UInt8) : Bool := !decide (b.toNat = 10)
/-- how many bytes the line's end or the remark has that a text begins with -/
def lnB (l : List UInt8) : Nat := if bt l 0 = 10 then 1 else if bt l 0 = 13 ∧ bt l 1 = 10 then 2 else if bt l 0 = 35 then run noL l else 0
/-- digits at a text's head, between any two of which a stroke may stand: how many bytes -/
def hdB (p : UInt8 → Bool) : List UInt8 → Bool
  | [] => false
  | c :: _ => p c
def cdN (p : UInt8 → Bool) : Bool → List UInt8 → Nat
  | _, [] => 0
  | q, b :: l => if (p b || (q && decide (b.toNat = 95) && hdB p l)) = true then 1 + cdN p true l else 0
theorem cdN_le (p : UInt8 → Bool) : ∀ (q : Bool) (l : List UInt8), cdN p q l ≤ l.length
  | _, [] => Nat.le_refl _
  | q, b :: l => by have h := cdN_le p true l; rw [cdN]; simp only [List.length_cons]; split <;> omega
/-- a text without strokes -/
def noS (b : UInt8) : Bool := !decide (b.toNat = 95)
def clnS (l : List UInt8) : List UInt8 := l.filter noS
/-- digits of a base -/
def dgB (base : Nat) (b : UInt8) : Bool := hxI b && decide (hxV b < base)
end Go.Proofs.YtiaepihdfbahaaaGreatDoor
namespace Go.Proofs.YtiaepihdfbahaaaGreatDoor

/-- a byte that is not a certain one -/
def neB (c b : UInt8) : Bool := !decide (b.toNat = c.toNat)
theorem neB_self (c : UInt8) : neB c c = false := by simp [neB]
theorem neB_eq {c b : UInt8} (h : neB c b = false) : b = c := by
  unfold neB at h
  exact UInt8.toNat_inj.1 (by simpa using h)
theorem neB_ne {c b : UInt8} (h : b ≠ c) : neB c b = true := by
  unfold neB
  simp [UInt8.toNat_inj, h]
theorem run_cpos {p : UInt8 → Bool} {b : UInt8} {l : List UInt8} (h : p b = true) : run p (b :: l) = run p l + 1 := by unfold run; rw [List.takeWhile_cons_of_pos h]; rfl
theorem run_cneg {p : UInt8 → Bool} {b : UInt8} {l : List UInt8} (h : p b = false) : run p (b :: l) = 0 := by unfold run; rw [List.takeWhile_cons_of_neg (by rw [h]; decide)]; rfl
theorem ixB_run (c : UInt8) : ∀ l : List UInt8, Lib.indexByte l c = if run (neB c) l < l.length then (run (neB c) l : Int) else -1
  | [] => rfl
  | b :: l => by
    have ih := ixB_run c l
    unfold Lib.indexByte
    by_cases h : b = c
    · subst h
      rw [run_cneg (neB_self b), if_pos (by simp)]; simp
    · have h2 : ¬ (b == c) = true := by simpa using h
      rw [run_cpos (neB_ne h)]
      simp only [List.length_cons]
      rw [if_neg h2, ih]
      by_cases k : run (neB c) l < l.length
      · rw [if_pos k, if_neg (by intro e; have := beq_iff_eq.1 e; omega), if_pos (by omega)]; omega
      · rw [if_neg k, if_pos (by decide), if_neg (by omega)]
/-- a text cut at each of a byte -/
def spl (c : UInt8) : List UInt8 → List (List UInt8)
  | [] => [[]]
  | b :: l => if neB c b = true then (match spl c l with
    | [] => [[b]]
    | h :: t => (b :: h) :: t) else [] :: spl c l
theorem spl_ne (c : UInt8) : ∀ l : List UInt8, ∃ h t, spl c l = h :: t
  | [] => ⟨[], [], rfl⟩
  | b :: l => by
    obtain ⟨h, t, e⟩ := spl_ne c l
    rw [spl, e]
    by_cases k : neB c b = true
    · rw [if_pos k]; exact ⟨_, _, rfl⟩
    · rw [if_neg k]; exact ⟨_, _, rfl⟩
theorem spl_run (c : UInt8) : ∀ l : List UInt8, spl c l = if run (neB c) l < l.length then l.take (run (neB c) l) :: spl c (l.drop (run (neB c) l + 1)) else [l]
  | [] => rfl
  | b :: l => by
    have ih := spl_run c l
    by_cases k : neB c b = true
    · rw [spl, if_pos k, run_cpos k]
      simp only [List.length_cons]
      by_cases h : run (neB c) l < l.length
      · rw [if_pos h] at ih
        rw [if_pos (by omega), ih]; rfl
      · rw [if_neg h] at ih
        rw [if_neg (by omega), ih]
    · have k2 : neB c b = false := by simpa using k
      rw [spl, if_neg k, run_cneg k2, if_pos (by simp)]; rfl
theorem run_full {p : UInt8 → Bool} : ∀ {l : List UInt8}, (∀ b ∈ l, p b = true) → run p l = l.length
  | [], _ => rfl
  | b :: l, h => by
    rw [run_cpos (h b (List.mem_cons_self ..)), run_full (fun x hx => h x (List.mem_cons_of_mem _ hx))]; rfl
theorem count_run (c : UInt8) : ∀ l : List UInt8, l.count c = if run (neB c) l < l.length then 1 + (l.drop (run (neB c) l + 1)).count c else 0
  | [] => rfl
  | b :: l => by
    have ih := count_run c l
    by_cases k : neB c b = true
    · have hbc : b ≠ c := by intro e; subst e; rw [neB_self] at k; cases k
      rw [List.count_cons_of_ne (fun e => hbc e), run_cpos k]
      simp only [List.length_cons]
      by_cases h : run (neB c) l < l.length
      · rw [if_pos h] at ih
        rw [if_pos (by omega), ih]; rfl
      · rw [if_neg h] at ih
        rw [if_neg (by omega), ih]
    · have k2 : neB c b = false := by simpa using k
      have e := neB_eq k2
      subst e
      rw [run_cneg k2, if_pos (by simp), List.count_cons_self]; simp; omega
theorem splitK_spl (c : UInt8) : ∀ (k : Nat) (l : List UInt8), l.count c = k → Lib.splitK [c] 0 k l = spl c l
  | 0, l, h => by
    rw [count_run] at h
    rw [spl_run]
    by_cases hr : run (neB c) l < l.length
    · rw [if_pos hr] at h; omega
    · rw [if_neg hr]; rfl
  | k + 1, l, h => by
    rw [count_run] at h
    by_cases hr : run (neB c) l < l.length
    · rw [if_pos hr] at h
      have e : Lib.index l [c] = (run (neB c) l : Int) := by rw [Lib.index_one, ixB_run, if_pos hr]
      rw [Lib.splitK, e, if_neg (by intro e2; have := beq_iff_eq.1 e2; omega), spl_run, if_pos hr]
      have ih := splitK_spl c k (l.drop (run (neB c) l + 1)) (by omega)
      rw [← ih]; simp
    · rw [if_neg hr] at h; omega
theorem split_spl (c : UInt8) (s : ByteArray) (sep : ByteArray) (hs : sep.data.toList = [c]) : (Lib.splitB sep 0 (Lib.countB s sep) s).map (·.data.toList) = spl c s.data.toList := by
  rw [Lib.splitB_data, hs]
  have e : Lib.countB s sep = s.data.toList.count c := by
    have : Lib.countB s sep = Lib.count s.data.toList sep.data.toList := rfl
    rw [this, hs, Lib.count_one]
  rw [e]; exact splitK_spl c _ _ rfl
theorem filter_run (c : UInt8) : ∀ l : List UInt8, l.filter (neB c) = if run (neB c) l < l.length then l.take (run (neB c) l) ++ (l.drop (run (neB c) l + 1)).filter (neB c) else l
  | [] => rfl
  | b :: l => by
    have ih := filter_run c l
    by_cases k : neB c b = true
    · rw [List.filter_cons_of_pos k, run_cpos k]
      simp only [List.length_cons]
      by_cases h : run (neB c) l < l.length
      · rw [if_pos h] at ih
        rw [if_pos (by omega), ih]; rfl
      · rw [if_neg h] at ih
        rw [if_neg (by omega), ih]
    · have k2 : neB c b = false := by simpa using k
      rw [List.filter_cons_of_neg k, run_cneg k2, if_pos (by simp)]; rfl
theorem replaceK_filter (c : UInt8) : ∀ (k : Nat) (l : List UInt8), l.count c = k → Lib.replaceK [c] [] k l = l.filter (neB c)
  | 0, l, h => by
    rw [count_run] at h
    rw [filter_run]
    by_cases hr : run (neB c) l < l.length
    · rw [if_pos hr] at h; omega
    · rw [if_neg hr]; rfl
  | k + 1, l, h => by
    rw [count_run] at h
    by_cases hr : run (neB c) l < l.length
    · rw [if_pos hr] at h
      have e : Lib.index l [c] = (run (neB c) l : Int) := by rw [Lib.index_one, ixB_run, if_pos hr]
      rw [Lib.replaceK_hit _ _ _ _ _ e, filter_run, if_pos hr]
      have ih := replaceK_filter c k (l.drop (run (neB c) l + 1)) (by omega)
      rw [← ih]; simp
    · rw [if_neg hr] at h; omega
theorem replaceAll_cln (l : List UInt8) : Lib.replaceAll l [95] [] = clnS l := by
  unfold Lib.replaceAll Lib.replace
  rw [if_neg (by decide)]
  unfold Lib.replaceNum
  rw [if_pos (Or.inl (by decide)), Lib.count_one, replaceK_filter 95 _ l rfl]; rfl
theorem cut_run (c : UInt8) (l : List UInt8) : Lib.cut l [c] = (l.take (run (neB c) l), l.drop (run (neB c) l + 1), decide (run (neB c) l < l.length)) := by
  unfold Lib.cut
  rw [Lib.index_one, ixB_run]
  by_cases h : run (neB c) l < l.length
  · rw [if_pos h, if_pos (by omega), decide_eq_true h]; simp
  · have hle : run (neB c) l ≤ l.length := by unfold run; exact (List.takeWhile_sublist _).length_le
    rw [if_neg h, if_neg (by decide), decide_eq_false h, List.take_of_length_le (by omega), List.drop_eq_nil_of_le (by omega)]

/-- two digits at a place, and what they say -/
def dgA (l : List UInt8) (k : Nat) : Bool := decide (48 ≤ bt l k ∧ bt l k ≤ 57)
def is2 (l : List UInt8) (k : Nat) : Bool := dgA l k && dgA l (k + 1)
def dg2 (l : List UInt8) (k : Nat) : Nat := (bt l k - 48) * 10 + (bt l (k + 1) - 48)
/-- a month's days -/
def dim (y m : Nat) : Nat := if m = 4 ∨ m = 6 ∨ m = 9 ∨ m = 11 then 30 else if m = 2 then (if (y % 4 = 0 ∧ y % 100 ≠ 0) ∨ y % 400 = 0 then 29 else 28) else 31
/-- a day that there is -/
def dayS (l : List UInt8) : Bool := decide (l.length = 10) && is2 l 0 && is2 l 2 && decide (bt l 4 = 45) && is2 l 5 && decide (bt l 7 = 45) && is2 l 8
def dayB (l : List UInt8) : Bool := dayS l && decide (1 ≤ dg2 l 5 ∧ dg2 l 5 ≤ 12 ∧ 1 ≤ dg2 l 8 ∧ dg2 l 8 ≤ dim (dg2 l 0 * 100 + dg2 l 2) (dg2 l 5))
/-- two digits below a bound -/
def twoB (l : List UInt8) (n : Nat) : Bool := decide (l.length = 2) && is2 l 0 && decide (dg2 l 0 < n)
/-- parts, each below its bound -/
def ckS : List (List UInt8) → List Nat → Bool
  | [], [] => true
  | p :: ps, n :: ns => twoB p n && ckS ps ns
  | _, _ => false
/-- a time -/
def ckH (l : List UInt8) : List UInt8 := l.take (run (neB 46) l)
def ckF (l : List UInt8) : List UInt8 := l.drop (run (neB 46) l + 1)
def ckD (l : List UInt8) : Bool := decide (run (neB 46) l < l.length)
def dgI (b : UInt8) : Bool := decide (48 ≤ b.toNat ∧ b.toNat ≤ 57)
def frB (l : List UInt8) : Bool := decide (l ≠ []) && decide (l.length ≤ 9) && decide (run dgI l = l.length)
def tmB (l : List UInt8) : Bool := ckS (spl 58 (ckH l)) [24, 60, 61] && (!ckD l || frB (ckF l))
/-- without the zone -/
def znB (l : List UInt8) : Bool := decide (bt l (l.length - 1) = 90 ∨ bt l (l.length - 1) = 122)
def zoB (l : List UInt8) : Bool := decide (6 ≤ l.length) && decide (bt l (l.length - 6) = 43 ∨ bt l (l.length - 6) = 45) && ckS (spl 58 (l.drop (l.length - 6 + 1))) [24, 60]
def znT (l : List UInt8) : List UInt8 := if l ≠ [] ∧ znB l = true then l.take (l.length - 1) else if zoB l = true then l.take (l.length - 6) else l
/-- a stamp -/
def stB (l : List UInt8) : Bool := dayB l || tmB l || (decide (10 < l.length) && dayB (l.take 10) && decide (bt l 10 = 84 ∨ bt l 10 = 116 ∨ bt l 10 = 32) && tmB (znT (l.drop 11)))
end Go.Proofs.YtiaepihdfbahaaaGreatDoor
namespace Go.Proofs.YtiaepihdfbahaaaGreatDoor
open Go.RowKit

/-- is a byte one of some? -/
def inT (l : List UInt8) (b : UInt8) : Bool := l.any (fun x => decide (x.toNat = b.toNat))
theorem tix_ge (l : List UInt8) (b : UInt8) : -1 ≤ Lib.indexByte l b := by
  rw [ixB_run]; split <;> omega
theorem tix_in (l : List UInt8) (b : UInt8) : decide (0 ≤ Lib.indexByte l b) = inT l b := by
  induction l with
  | nil => rfl
  | cons a l ih =>
    unfold Lib.indexByte inT
    rw [List.any_cons]
    by_cases h : a = b
    · subst h; simp
    · have h2 : ¬ a.toNat = b.toNat := fun e => h (UInt8.toNat_inj.1 e)
      have h3 : (a == b) = false := by simpa using h
      rw [h3, decide_eq_false h2, Bool.false_or]
      have e : (l.any fun x => decide (x.toNat = b.toNat)) = inT l b := rfl
      rw [e, ← ih]
      simp only [Bool.false_eq_true, if_false]
      by_cases h4 : Lib.indexByte l b = -1
      · rw [h4]; rfl
      · have h5 : (Lib.indexByte l b == -1) = false := by simpa using h4
        rw [h5]
        simp only [Bool.false_eq_true, if_false]
        have h6 : -1 ≤ Lib.indexByte l b := tix_ge l b
        exact decide_eq_decide.2 (by omega)
theorem tix_any (s : ByteArray) (b : UInt8) (w : World) : Calls Tryz.prog 95 #[.string s, .int .u8 (b.toNat : Int)] w fun e w' => e = .returned (.int .i64 (Lib.indexByte s.data.toList b)) ∧ w' = w := by
  have := Tryz.strings_IndexByte s (b.toNat : Int) w
  have e : ((b.toNat : Int).toNat).toUInt8 = b := by simp
  rw [e] at this; exact this
set_option maxRecDepth 100000 in
theorem tamong_any (s : ByteArray) (b : UInt8) (w : World) :
    Calls Tryz.prog 60 #[.string s, .int .u8 (b.toNat : Int)] w fun e w' => e = .returned (.bool (inT s.data.toList b)) ∧ w' = w := by
  have HI := hid (fun X => tix_any s b X)
  rw [← tix_in]
  obtain ⟨R, hR⟩ : ∃ R, Lib.indexByte s.data.toList b = R := ⟨_, rfl⟩
  rw [hR] at HI ⊢
  clear hR
  obtain ⟨n, hn⟩ : ∃ n, b.toNat = n := ⟨_, rfl⟩
  rw [hn] at HI ⊢
  clear hn
  go_enter Tryz.func60, Tryz.ntmps60
  go_wp2_with (go_at_call 95; go_must (refine (HI.out _).mono ?_; rintro e w1 ⟨rfl, rfl⟩))
  go_ret
  exact ⟨rfl, rfl⟩
theorem tamong_of (s : ByteArray) (p : UInt8 → Bool) (hp : ∀ b, inT s.data.toList b = p b) (b : UInt8) (w : World) :
    Calls Tryz.prog 60 #[.string s, .int .u8 (b.toNat : Int)] w fun e w' => e = .returned (.bool (p b)) ∧ w' = w := by
  have := tamong_any s b w
  rw [hp] at this; exact this
theorem Tryz.trimT (s cs : ByteArray) (w : World) (h : cs.size ≤ 100) (ha : ∀ (j : Nat) b, cs.data.toList[j]? = some b → b.toNat < 128) :
    Calls Tryz.prog 123 #[.string s, .string cs] w fun e w' => e = .returned (.string (mkS (Lib.trimLeftS s.data.toList cs.data.toList))) ∧ Below w.heap.size w w' :=
  Any.strings_TrimLeft_laid Tryz.lays161 (by kernel_rfl) s cs w (by omega) ha
set_option maxRecDepth 100000 in
set_option maxHeartbeats 1000000 in
theorem trowEnd_of (t : ByteArray) (a : Nat) (cs : ByteArray) (p : UInt8 → Bool) (hp : (fun b => cs.data.toList.contains b) = p) (hc : cs.size ≤ 100) (ha : ∀ (j : Nat) b, cs.data.toList[j]? = some b → b.toNat < 128) (w : World) (ht : t.size ≤ 1000000) (hat : a ≤ t.size) :
    Calls Tryz.prog 94 #[.string t, .int .i64 (a : Int), .string cs] w fun e w' => e = .returned (.int .i64 (a + run p (t.data.toList.drop a) : Nat)) ∧ Below w.heap.size w w' := by
  obtain ⟨u, hu⟩ : ∃ u, t.extract a t.size = u := ⟨_, rfl⟩
  have hul : u.data.toList = t.data.toList.drop a := by rw [← hu, drop_list]
  obtain ⟨x, hx⟩ : ∃ x, mkS (u.data.toList.drop (run p u.data.toList)) = x := ⟨_, rfl⟩
  have HT : Hid (∀ X, Calls Tryz.prog 123 #[.string u, .string cs] X fun e w' => e = .returned (.string x) ∧ Below X.heap.size X w') := fun X => by
    have := Tryz.trimT u cs X hc ha
    rw [Lib.trimLeftS, hp, dropW, hx] at this; exact this
  have hr := run_leE p u.data.toList
  have hxs : x.size + run p u.data.toList = t.size - a := by
    rw [← size_list, ← hx, mkS_list, List.length_drop, hul, List.length_drop, size_list]; rw [hul, List.length_drop, size_list] at hr; omega
  rw [← hul]
  clear hul hx hr
  generalize run p u.data.toList = n at *
  have h1 : x.size ≤ t.size := by omega
  have HX := hid hxs
  clear hxs
  go_enter Tryz.func94, Tryz.ntmps94
  go_wp2_with (go_at_call 123; go_must (refine (HT.out _).mono ?_; rintro e w1 ⟨rfl, hb⟩))
  go_ret
  exact ⟨ret_int (by have := HX.out; omega), hb⟩
theorem ascii_of (cs : ByteArray) (h : cs.data.toList.all (fun b => decide (b.toNat < 128)) = true) : ∀ (j : Nat) b, cs.data.toList[j]? = some b → b.toNat < 128 := fun j b hb => by
  have := List.all_eq_true.1 h b (List.mem_of_getElem? hb)
  simpa using this
/-- a plain value's bytes -/
def rowC (b : UInt8) : Bool := brI b || decide (b.toNat = 43) || decide (b.toNat = 46) || decide (b.toNat = 58)
theorem byte_all (p : UInt8 → Bool) (h : (List.range 256).all (fun n => p (UInt8.ofNat n)) = true) (b : UInt8) : p b = true := by
  have := List.all_eq_true.1 h b.toNat (List.mem_range.2 b.toNat_lt)
  simpa using this
theorem byte_eq (p q : UInt8 → Bool) (h : (List.range 256).all (fun n => p (UInt8.ofNat n) == q (UInt8.ofNat n)) = true) (b : UInt8) : p b = q b := by
  have := byte_all (fun b => p b == q b) h b
  simpa using this
end Go.Proofs.YtiaepihdfbahaaaGreatDoor
namespace Go.Proofs.YtiaepihdfbahaaaGreatDoor
open Go.RowKit

def isD (b : UInt8) : Bool := decide (48 ≤ b.toNat) && decide (b.toNat ≤ 57)
theorem isD_bd {b : UInt8} (h : isD b = true) : 48 ≤ b.toNat ∧ b.toNat ≤ 57 := by
  unfold isD at h; simpa [Bool.and_eq_true] using h
/-- how many digits a text begins with -/
def runN (l : List UInt8) : Nat := (l.takeWhile isD).length
theorem runN_le (l : List UInt8) : runN l ≤ l.length := (List.takeWhile_prefix isD).length_le
theorem runN_take (l : List UInt8) : l.take (runN l) = l.takeWhile isD := by
  have := List.takeWhile_prefix isD (l := l)
  exact (List.prefix_iff_eq_take.1 this).symm
theorem runN_drop (l : List UInt8) : l.drop (runN l) = l.dropWhile isD := by
  have h := List.takeWhile_append_dropWhile (p := isD) (l := l)
  have e := congrArg (List.drop (runN l)) h
  rw [← e]; exact List.drop_left
theorem runN_lt (l : List UInt8) : ∀ k, k < runN l → isD (l.getD k 0) = true := by
  induction l with
  | nil => intro k h; simp [runN] at h
  | cons b l ih =>
    intro k h
    unfold runN at h ih
    rw [List.takeWhile_cons] at h
    by_cases hb : isD b = true
    · rw [if_pos hb, List.length_cons] at h
      rcases k with _ | k
      · simpa using hb
      · rw [List.getD_cons_succ]; exact ih k (by omega)
    · rw [if_neg hb] at h; simp at h
theorem runN_at (l : List UInt8) (h : runN l < l.length) : isD (l.getD (runN l) 0) = false := by
  induction l with
  | nil => simp at h
  | cons b l ih =>
    unfold runN at h ih ⊢
    rw [List.takeWhile_cons] at h ⊢
    by_cases hb : isD b = true
    · rw [if_pos hb, List.length_cons] at h ⊢
      rw [List.getD_cons_succ]; exact ih (by simpa using h)
    · rw [if_neg hb]; simpa using hb
/-- a power's digits, read as a number (other bytes are passed over) -/
def pval (l : List UInt8) : Nat := l.foldl (fun v b => if isD b then 10 * v + (b.toNat - 48) else v) 0
theorem pval_snoc (l : List UInt8) (b : UInt8) : pval (l ++ [b]) = if isD b then 10 * pval l + (b.toNat - 48) else pval l := by simp [pval]
theorem pval_take (l : List UInt8) (k : Nat) (h : k < l.length) : pval (l.take (k + 1)) = if isD (l.getD k 0) then 10 * pval (l.take k) + ((l.getD k 0).toNat - 48) else pval (l.take k) := by
  have e : l.getD k 0 = l[k] := by simp [List.getD, h]
  rw [e, List.take_succ_eq_append_getElem h, pval_snoc]
theorem pval_mono (l : List UInt8) (k : Nat) : ∀ n, pval (l.take k) ≤ pval (l.take (k + n))
  | 0 => Nat.le_refl _
  | n + 1 => by
    have ih := pval_mono l k n
    by_cases h : k + n < l.length
    · rw [← Nat.add_assoc, pval_take l (k + n) h]; split <;> omega
    · rw [List.take_of_length_le (l := l) (i := k + (n + 1)) (by omega)]
      rwa [List.take_of_length_le (l := l) (i := k + n) (by omega)] at ih
theorem pval_le (l : List UInt8) (k : Nat) : pval (l.take k) ≤ pval l := by
  have := pval_mono l k l.length
  rwa [List.take_of_length_le (l := l) (i := k + l.length) (by omega)] at this
/-- what stands behind e -/
def pwOk (l : List UInt8) : Bool := decide (pval l ≤ 100000)
def pwV (l : List UInt8) : Int := if pwOk l then (if l.getD 0 0 = 45 then -(pval l : Int) else pval l) else 0
theorem pwV_bd (l : List UInt8) : -100000 ≤ pwV l ∧ pwV l ≤ 100000 := by
  unfold pwV
  by_cases h : pwOk l = true
  · have : pval l ≤ 100000 := by simpa [pwOk] using h
    rw [if_pos h]; split <;> omega
  · rw [if_neg h]; omega
def sgI (n : Bool) (d : List UInt8) : Int := if d = [] then 0 else if n then -1 else 1
/-- a text's parts, one behind the other -/
def pNeg (l : List UInt8) : Bool := decide ((l.getD 0 0).toNat = 45)
def pU (l : List UInt8) : List UInt8 := if pNeg l then l.drop 1 else l
def pW (l : List UInt8) : List UInt8 := (pU l).takeWhile isD
def pR (l : List UInt8) : List UInt8 := (pU l).dropWhile isD
def pWok (l : List UInt8) : Bool := !decide (pW l = []) && !(decide (1 < (pW l).length) && decide (((pW l).getD 0 0).toNat = 48))
def pDot (l : List UInt8) : Bool := decide (((pR l).getD 0 0).toNat = 46)
def pF (l : List UInt8) : List UInt8 := if pDot l then ((pR l).drop 1).takeWhile isD else []
def pS (l : List UInt8) : List UInt8 := if pDot l then ((pR l).drop 1).dropWhile isD else pR l
def pFok (l : List UInt8) : Bool := !(pDot l && decide (pF l = []))
def pP (l : List UInt8) : List UInt8 := (pS l).drop 1
def pE (l : List UInt8) : Bool := decide (((pS l).getD 0 0).toNat = 101) || decide (((pS l).getD 0 0).toNat = 69)
def pSg (p : List UInt8) : Bool := decide ((p.getD 0 0).toNat = 43) || decide ((p.getD 0 0).toNat = 45)
def pD (p : List UInt8) : List UInt8 := if pSg p then p.drop 1 else p
def pEok (l : List UInt8) : Bool := decide (pS l = []) || (pE l && !decide (pD (pP l) = []) && decide (runN (pD (pP l)) = (pD (pP l)).length))
def pOk (l : List UInt8) : Bool := pWok l && pFok l && pEok l
/-- what parts answers -/
def partsV (l : List UInt8) : Value :=
  if pOk l then .tuple #[.bool (pNeg l), .string (mkS (pW l)), .string (mkS (pF l)), .string (mkS (pP l)), .bool true]
  else .tuple #[.bool false, .string ⟨#[]⟩, .string ⟨#[]⟩, .string ⟨#[]⟩, .bool false]
theorem partsV_no (l : List UInt8) (h : pWok l = false ∨ pFok l = false ∨ pEok l = false) : partsV l = .tuple #[.bool false, .string ⟨#[]⟩, .string ⟨#[]⟩, .string ⟨#[]⟩, .bool false] := by
  have : pOk l = false := by unfold pOk; rcases h with h | h | h <;> simp [h]
  unfold partsV; rw [this]; rfl
theorem partsV_yes (l : List UInt8) (h1 : pWok l = true) (h2 : pFok l = true) (h3 : pEok l = true) : partsV l = .tuple #[.bool (pNeg l), .string (mkS (pW l)), .string (mkS (pF l)), .string (mkS (pP l)), .bool true] := by
  have : pOk l = true := by unfold pOk; simp [h1, h2, h3]
  unfold partsV; rw [this]; rfl
end Go.Proofs.YtiaepihdfbahaaaGreatDoor
namespace Go.Proofs.YtiaepihdfbahaaaGreatDoor
open Go.RowKit

/-- P3.1's Good -/
def numB (l : List UInt8) : Bool := pOk l && pwOk (pP l) && decide (l.length ≤ 400)
def is0 (b : UInt8) : Bool := decide (b.toNat = 48)
def lz (l : List UInt8) : Nat := (l.takeWhile is0).length
def lst (l : List UInt8) : List UInt8 := l.dropWhile is0
def rst (l : List UInt8) : List UInt8 := (l.reverse.dropWhile is0).reverse
theorem lz_cons (b : UInt8) (l : List UInt8) (h : b.toNat = 48) : lz (b :: l) = lz l + 1 ∧ lst (b :: l) = lst l := by
  have : is0 b = true := by simp [is0, h]
  simp [lz, lst, this]
theorem lz_stop (b : UInt8) (l : List UInt8) (h : ¬ b.toNat = 48) : lz (b :: l) = 0 ∧ lst (b :: l) = b :: l := by
  have : is0 b = false := by simp [is0, h]
  simp [lz, lst, this]
/-- a number's digits, without noughts at the ends -/
def scD (l : List UInt8) : List UInt8 := rst (lst (pW l ++ pF l))
def scT (l : List UInt8) : Int := if scD l = [] then 0 else ((pW l).length : Int) - 1 + pwV (pP l) - lz (pW l ++ pF l)
def scN (l : List UInt8) : Bool := if scD l = [] then false else pNeg l
def wholeB (l : List UInt8) : Bool := numB l && (decide (scD l = []) || decide (((scD l).length : Int) - 1 ≤ scT l))
/-- a natural number's digits -/
def natD (n : Nat) : List UInt8 := if n < 10 then [UInt8.ofNat (48 + n)] else natD (n / 10) ++ [UInt8.ofNat (48 + n % 10)]
def txt (n : Int) : List UInt8 := if n < 0 then 45 :: natD (-n).toNat else natD n.toNat
theorem pU_le (l : List UInt8) : (pU l).length ≤ l.length := by unfold pU; split <;> simp
theorem pWR (l : List UInt8) : pW l ++ pR l = pU l := List.takeWhile_append_dropWhile
theorem parts_len (l : List UInt8) : (pW l).length + (pF l).length + (pP l).length ≤ l.length := by
  have h1 := congrArg List.length (pWR l)
  have h2 := pU_le l
  rw [List.length_append] at h1
  unfold pP pS pF
  cases hd : pDot l with
  | false => simp; omega
  | true =>
    have h3 := congrArg List.length (List.takeWhile_append_dropWhile (p := isD) (l := (pR l).drop 1))
    rw [List.length_append, List.length_drop] at h3
    simp at h3 ⊢; omega
/-- the order of two numbers, each by its sign, its digits, the power of the first -/
def ltB (d e : List UInt8) : Bool := Op.bytesLess d e
def lessB (d : List UInt8) (n : Int) (e : List UInt8) (m : Int) : Bool := decide (n < m) || (decide (n = m) && ltB d e)
def tcmp (p : Bool) (d : List UInt8) (n : Int) (q : Bool) (e : List UInt8) (m : Int) : Int :=
  if d = e ∧ p = q ∧ n = m then 0
  else if sgI p d = sgI q e then (if lessB d n e m = decide (0 < sgI p d) then -1 else 1)
  else if sgI p d < sgI q e then -1 else 1
def cmpI (a b : List UInt8) : Int :=
  if numB a && numB b then tcmp (scN a) (scD a) (scT a) (scN b) (scD b) (scT b)
  else if numB a = numB b then 0 else if numB b then -1 else 1
/-- a number's one form -/
def canA (l : List UInt8) : List UInt8 := (scD l).take 1 ++ (if 1 < (scD l).length then 46 :: (scD l).drop 1 else [])
def canB (l : List UInt8) : List UInt8 := if scN l then 45 :: canA l else canA l
def canC (l : List UInt8) : List UInt8 := if scT l = 0 then canB l else canB l ++ (101 :: txt (scT l))
def canV (l : List UInt8) : List UInt8 := if numB l then (if scD l = [] then [48] else canC l) else []
/-- a whole number, if it fits -/
def intB (l : List UInt8) : Bool := numB l && !decide (l = [45, 48]) && decide (pF l = []) && decide (pP l = []) && (if pNeg l then decide (pval (pW l) ≤ 9223372036854775808) else decide (pval (pW l) < 9223372036854775808))
def intV (l : List UInt8) : Int := if intB l then (if pNeg l then -(pval (pW l) : Int) else (pval (pW l) : Int)) else 0
end Go.Proofs.YtiaepihdfbahaaaGreatDoor
namespace Go.Proofs.YtiaepihdfbahaaaGreatDoor
open Go.RowKit

theorem ltB_irr : ∀ d : List UInt8, ltB d d = false
  | [] => rfl
  | a :: d => by
    have := ltB_irr d
    unfold ltB at this ⊢
    simp [Op.bytesLess, this]
theorem ltB_cons (a b : UInt8) (d e : List UInt8) : ltB (a :: d) (b :: e) = (decide (a < b) || (a == b && ltB d e)) := rfl
theorem u8_tri (a b : UInt8) : a < b ∨ a = b ∨ b < a := by
  have h1 : a < b ↔ a.toNat < b.toNat := Iff.rfl
  have h2 : b < a ↔ b.toNat < a.toNat := Iff.rfl
  have h3 : a = b ↔ a.toNat = b.toNat := UInt8.toNat_inj.symm
  rw [h1, h2, h3]; omega
theorem u8_asym (a b : UInt8) (h : a < b) : ¬ b < a ∧ ¬ a = b := by
  have h1 : a.toNat < b.toNat := h
  exact ⟨fun g => by have : b.toNat < a.toNat := g; omega, fun g => by rw [g] at h1; omega⟩
/-- just one of: below, the same, above -/
theorem ltB_tri : ∀ d e : List UInt8, (ltB d e = true ∧ ltB e d = false ∧ ¬ d = e) ∨ (d = e) ∨ (ltB d e = false ∧ ltB e d = true ∧ ¬ d = e)
  | [], [] => Or.inr (Or.inl rfl)
  | [], _ :: _ => Or.inl ⟨rfl, rfl, by simp⟩
  | _ :: _, [] => Or.inr (Or.inr ⟨rfl, rfl, by simp⟩)
  | a :: d, b :: e => by
    rw [ltB_cons, ltB_cons]
    rcases u8_tri a b with h | h | h
    · have g := u8_asym a b h
      left; refine ⟨by simp [h], by simp [g.1]; intro hc; exact absurd hc.symm g.2, by simp [g.2]⟩
    · subst h
      rcases ltB_tri d e with ⟨h1, h2, h3⟩ | h1 | ⟨h1, h2, h3⟩
      · left; exact ⟨by simp [h1], by simp [h2], by simp [h3]⟩
      · right; left; rw [h1]
      · right; right; exact ⟨by simp [h1], by simp [h2], by simp [h3]⟩
    · have g := u8_asym b a h
      right; right; refine ⟨by simp [g.1]; intro hc; exact absurd hc.symm g.2, by simp [h], by simp; intro hc; exact absurd hc.symm g.2⟩
/-- nought is one -/
def Tri (p : Bool) (d : List UInt8) (n : Int) : Prop := d = [] → p = false ∧ n = 0
end Go.Proofs.YtiaepihdfbahaaaGreatDoor
namespace Go.Proofs.YtiaepihdfbahaaaGreatDoor
open Go.RowKit

theorem isD_of_all {l : List UInt8} (h : l.all isD = true) {b : UInt8} (hb : b ∈ l) : isD b = true := List.all_eq_true.1 h b hb
theorem tw_all (x : List UInt8) : (x.takeWhile isD).all isD = true := List.all_takeWhile
theorem lst_first (l : List UInt8) : lst l = [] ∨ ∃ a t, lst l = a :: t ∧ ¬ a.toNat = 48 := by
  induction l with
  | nil => exact Or.inl rfl
  | cons b l ih =>
    by_cases h : b.toNat = 48
    · rw [(lz_cons b l h).2]; exact ih
    · rw [(lz_stop b l h).2]; exact Or.inr ⟨b, l, rfl, h⟩
theorem rst_cons (a : UInt8) (t : List UInt8) (h : ¬ a.toNat = 48) : rst (a :: t) = a :: rst t := by
  have h0 : is0 a = false := by simp [is0, h]
  have e : ∀ x : List UInt8, (x ++ [a]).dropWhile is0 = x.dropWhile is0 ++ [a] := by
    intro x
    induction x with
    | nil => simp [h0]
    | cons b x ih =>
      by_cases hb : is0 b = true
      · rw [List.cons_append, List.dropWhile_cons, if_pos hb, List.dropWhile_cons, if_pos hb]; exact ih
      · rw [List.cons_append, List.dropWhile_cons, if_neg hb, List.dropWhile_cons, if_neg hb]; rfl
  unfold rst; rw [List.reverse_cons, e]; simp
/-- the digits with a dot behind the first -/
def dotD (d : List UInt8) : List UInt8 := d.take 1 ++ (if 1 < d.length then 46 :: d.drop 1 else [])
end Go.Proofs.YtiaepihdfbahaaaGreatDoor
namespace Go.Proofs.YtiaepihdfbahaaaGreatDoor
open Go.RowKit

end Go.Proofs.YtiaepihdfbahaaaGreatDoor
namespace Go.Proofs.YtiaepihdfbahaaaGreatDoor
open Go.RowKit

theorem tw_app (W R : List UInt8) (hW : W.all isD = true) (hR : R = [] ∨ isD (R.getD 0 0) = false) : (W ++ R).takeWhile isD = W ∧ (W ++ R).dropWhile isD = R := by
  induction W with
  | nil =>
    rcases R with _ | ⟨r, R⟩
    · exact ⟨rfl, rfl⟩
    · have : isD r = false := by rcases hR with h | h; cases h; simpa using h
      simp [this]
  | cons a W ih =>
    simp only [List.all_cons, Bool.and_eq_true] at hW
    have := ih hW.2
    simp [hW.1, this.1, this.2]
theorem run_all (x : List UInt8) (h : x.all isD = true) : runN x = x.length := by
  have := (tw_app x [] h (Or.inl rfl)).1
  rw [List.append_nil] at this
  unfold runN; rw [this]
/-- what may stand behind the digits: nothing, or e and a power -/
def Tail (E : List UInt8) : Prop := E = [] ∨ ∃ c P, E = c :: P ∧ (c.toNat = 101 ∨ c.toNat = 69) ∧ ¬ pD P = [] ∧ runN (pD P) = (pD P).length
/-- the size of a number, as digits -/
def mag (n : Int) : Nat := n.natAbs
end Go.Proofs.YtiaepihdfbahaaaGreatDoor
namespace Go.Proofs.YtiaepihdfbahaaaGreatDoor
open Go.RowKit

end Go.Proofs.YtiaepihdfbahaaaGreatDoor
namespace Go.Proofs.YtiaepihdfbahaaaGreatDoor
open Go.RowKit

theorem pval_from (l : List UInt8) (h : l.all isD = true) : ∀ v : Nat, l.foldl (fun v b => if isD b then 10 * v + (b.toNat - 48) else v) v = v * 10 ^ l.length + pval l := by
  induction l with
  | nil => intro v; simp [pval]
  | cons a l ih =>
    intro v
    simp only [List.all_cons, Bool.and_eq_true] at h
    have e1 := ih h.2 (10 * v + (a.toNat - 48))
    have e2 : pval (a :: l) = (10 * 0 + (a.toNat - 48)) * 10 ^ l.length + pval l := by
      conv => lhs; unfold pval; rw [List.foldl_cons, if_pos h.1]
      exact ih h.2 _
    rw [List.foldl_cons, if_pos h.1, e1, e2, List.length_cons, Nat.pow_succ]
    have g1 : (10 * v + (a.toNat - 48)) * 10 ^ l.length = 10 * (v * 10 ^ l.length) + (a.toNat - 48) * 10 ^ l.length := by rw [Nat.add_mul, Nat.mul_assoc]
    have g2 : v * (10 ^ l.length * 10) = 10 * (v * 10 ^ l.length) := by rw [← Nat.mul_assoc, Nat.mul_comm]
    have g3 : (10 * 0 + (a.toNat - 48)) * 10 ^ l.length = (a.toNat - 48) * 10 ^ l.length := by rw [Nat.mul_zero, Nat.zero_add]
    rw [g1, g2, g3]; omega
theorem pval_cons (a : UInt8) (l : List UInt8) (h : (a :: l).all isD = true) : pval (a :: l) = (a.toNat - 48) * 10 ^ l.length + pval l := by
  simp only [List.all_cons, Bool.and_eq_true] at h
  have := pval_from l h.2 (10 * 0 + (a.toNat - 48))
  unfold pval at this ⊢
  rw [List.foldl_cons, if_pos h.1, this, show 10 * 0 + (a.toNat - 48) = a.toNat - 48 by omega]
def ordI (a b : Int) : Int := if a < b then -1 else if a > b then 1 else 0
end Go.Proofs.YtiaepihdfbahaaaGreatDoor
namespace Go.Proofs.YtiaepihdfbahaaaGreatDoor
open Go.RowKit

theorem hp_one (l : List UInt8) (c : UInt8) (hc : ¬ c.toNat = 0) : Lib.hasPrefix l [c] = decide ((l.getD 0 0).toNat = c.toNat) := by
  unfold Lib.hasPrefix
  cases l with
  | nil =>
    have : ¬ (0 : Nat) = c.toNat := fun h => hc h.symm
    simp [List.isPrefixOf, this]
  | cons b l =>
    by_cases h : c = b
    · subst h; simp [List.isPrefixOf]
    · have : ¬ b.toNat = c.toNat := fun e => h (UInt8.toNat_inj.1 e.symm)
      simp [List.isPrefixOf, h, this]
theorem tp_one (l : List UInt8) (c : UInt8) (hc : ¬ c.toNat = 0) : Lib.trimPrefix l [c] = if decide ((l.getD 0 0).toNat = c.toNat) then l.drop 1 else l := by
  unfold Lib.trimPrefix; rw [hp_one l c hc]; rfl
theorem cut_neg (l : List UInt8) : Lib.hasPrefix l [45] = pNeg l ∧ Lib.trimPrefix l [45] = pU l := ⟨hp_one l 45 (by decide), tp_one l 45 (by decide)⟩
theorem cut_dot (l : List UInt8) : Lib.hasPrefix (pR l) [46] = pDot l ∧ Lib.trimPrefix (pR l) [46] = if pDot l then (pR l).drop 1 else pR l := ⟨hp_one _ 46 (by decide), tp_one _ 46 (by decide)⟩
/-- behind e: the digits, without their sign -/
theorem cut_sign (p : List UInt8) : (Lib.hasPrefix p [45] = true → Lib.trimPrefix p [45] = pD p) ∧ (Lib.hasPrefix p [45] = false → Lib.trimPrefix (Lib.trimPrefix p [45]) [43] = pD p) := by
  rw [hp_one p 45 (by decide), tp_one p 45 (by decide)]
  have e45 : (45 : UInt8).toNat = 45 := rfl
  have e43 : (43 : UInt8).toNat = 43 := rfl
  rw [e45]
  unfold pD pSg
  constructor
  · intro h
    rw [if_pos h]
    have : (p.getD 0 0).toNat = 45 := of_decide_eq_true h
    rw [this]; rfl
  · intro h
    rw [if_neg (by rw [h]; decide), tp_one p 43 (by decide), e43]
    rw [h, Bool.or_false]
/-- what readPower tells of what stands behind a number's digits -/
def rpE (t : List UInt8) : Bool := decide ((t.getD 0 0).toNat = 101) || decide ((t.getD 0 0).toNat = 69)
def rpB (t : List UInt8) : Bool := decide (t = []) || (rpE t && !decide (pD (t.drop 1) = []) && decide (runN (pD (t.drop 1)) = (pD (t.drop 1)).length) && pwOk (t.drop 1))
def rpV (t : List UInt8) : Int := if rpB t then pwV (t.drop 1) else 0
theorem rpV_bd (t : List UInt8) : -100000 ≤ rpV t ∧ rpV t ≤ 100000 := by
  unfold rpV; split
  · exact pwV_bd _
  · omega
theorem rp_of (l : List UInt8) : rpB (pS l) = (pEok l && pwOk (pP l)) := by
  unfold rpB pEok
  by_cases h : pS l = []
  · have : pP l = [] := by unfold pP; rw [h]; rfl
    rw [decide_eq_true h, Bool.true_or, Bool.true_or, this]; rfl
  · rw [decide_eq_false h, Bool.false_or, Bool.false_or]; rfl
theorem num_split (l : List UInt8) : numB l = (decide (l.length ≤ 400) && pWok l && pFok l && rpB (pS l)) := by
  rw [rp_of]; unfold numB pOk
  cases decide (l.length ≤ 400) <;> cases pWok l <;> cases pFok l <;> cases pEok l <;> cases pwOk (pP l) <;> rfl
theorem pval_sign (p : List UInt8) : pval (pD p) = pval p := by
  unfold pD
  by_cases h : pSg p = true
  · rw [if_pos h]
    cases p with
    | nil => rfl
    | cons b p =>
      have hb : isD b = false := by
        unfold pSg at h; simp only [List.getD_cons_zero, Bool.or_eq_true, decide_eq_true_eq] at h
        unfold isD; rcases h with h | h <;> rw [h] <;> rfl
      show pval p = pval (b :: p)
      unfold pval; rw [List.foldl_cons, hb]; rfl
  · rw [if_neg h]
theorem rp_no (t : List UInt8) (h0 : ¬ t = []) (h : rpE t = false ∨ pD (t.drop 1) = [] ∨ ¬ runN (pD (t.drop 1)) = (pD (t.drop 1)).length ∨ ¬ pval (pD (t.drop 1)) ≤ 100000) : rpB t = false ∧ rpV t = 0 := by
  have e : rpB t = false := by
    unfold rpB; rw [decide_eq_false h0, Bool.false_or]
    rcases h with h | h | h | h
    · rw [h]; rfl
    · rw [h]; simp
    · rw [decide_eq_false h]; simp
    · rw [pval_sign] at h; have : pwOk (t.drop 1) = false := by unfold pwOk; exact decide_eq_false h
      rw [this]; simp
  exact ⟨e, by unfold rpV; rw [e]; rfl⟩
theorem rp_yes (t : List UInt8) (h1 : rpE t = true) (h2 : ¬ pD (t.drop 1) = []) (h3 : runN (pD (t.drop 1)) = (pD (t.drop 1)).length) (h4 : pval (pD (t.drop 1)) ≤ 100000) :
    rpB t = true ∧ rpV t = if Lib.hasPrefix (t.drop 1) [45] then -(pval (pD (t.drop 1)) : Int) else pval (pD (t.drop 1)) := by
  have ok : pwOk (t.drop 1) = true := by unfold pwOk; rw [pval_sign] at h4; exact decide_eq_true h4
  have e : rpB t = true := by
    unfold rpB; rw [h1, decide_eq_false h2, decide_eq_true h3, ok]; simp
  refine ⟨e, ?_⟩
  unfold rpV; rw [if_pos e]; unfold pwV; rw [if_pos ok, hp_one _ 45 (by decide), pval_sign]
  have e45 : (45 : UInt8).toNat = 45 := rfl
  rw [e45]
  by_cases hb : (t.drop 1).getD 0 0 = 45
  · rw [if_pos hb, hb]; rfl
  · have : ¬ ((t.drop 1).getD 0 0).toNat = 45 := fun e => hb (UInt8.toNat_inj.1 (by rw [e]; rfl))
    rw [if_neg hb, decide_eq_false this]; rfl
theorem rp_nil : rpB [] = true ∧ rpV [] = 0 := by decide
/-- TrimLeft, TrimRight at a nought -/
theorem is0_eq : is0 = (· == (48 : UInt8)) := by
  funext b
  unfold is0
  by_cases h : b = 48
  · subst h; rfl
  · have : ¬ b.toNat = 48 := fun e => h (UInt8.toNat_inj.1 (by rw [e]; rfl))
    rw [decide_eq_false this]; exact (beq_eq_false_iff_ne.2 h).symm
theorem trim_l (l : List UInt8) : Lib.trimLeftB l 48 = lst l := by unfold Lib.trimLeftB lst; rw [is0_eq]
theorem trim_r (l : List UInt8) : Lib.trimRightB l 48 = rst l := by unfold Lib.trimRightB rst; rw [is0_eq]
theorem lz_len (l : List UInt8) : (lst l).length + lz l = l.length := by
  have := congrArg List.length (List.takeWhile_append_dropWhile (p := is0) (l := l))
  rw [List.length_append] at this; unfold lst lz; omega
theorem rst_lst (x : List UInt8) : rst (lst x) = [] ↔ lst x = [] := by
  rcases lst_first x with h | ⟨a, t, h, h0⟩
  · rw [h]; exact ⟨fun _ => rfl, fun _ => rfl⟩
  · rw [h, rst_cons a t h0]; exact ⟨fun e => (by cases e), fun e => (by cases e)⟩
/-- the one number that stands for a text -/
def nmvD (l : List UInt8) : Value := .agg #[.int .i64 (sgI (scN l) (scD l)), .string (mkS (scD l)), .int .i64 (scT l)]
def noV : Value := .agg #[.int .i64 0, .string ⟨#[]⟩, .int .i64 0]
def rdS (l : List UInt8) : Int := if numB l then sgI (scN l) (scD l) else 0
def rdD (l : List UInt8) : List UInt8 := if numB l then scD l else []
def rdT (l : List UInt8) : Int := if numB l then scT l else 0
theorem sc_zero (l : List UInt8) (h : lst (pW l ++ pF l) = []) : scD l = [] ∧ scT l = 0 ∧ sgI (scN l) (scD l) = 0 := by
  have e : scD l = [] := (rst_lst _).2 h
  exact ⟨e, by unfold scT; rw [if_pos e], by unfold sgI; rw [if_pos e]⟩
theorem sc_some (l : List UInt8) (h : ¬ lst (pW l ++ pF l) = []) : scD l = rst (lst (pW l ++ pF l)) ∧ scT l = ((pW l).length : Int) - 1 + pwV (pP l) - lz (pW l ++ pF l) ∧ sgI (scN l) (scD l) = if pNeg l then -1 else 1 := by
  have e : ¬ scD l = [] := fun k => h ((rst_lst _).1 k)
  exact ⟨rfl, by unfold scT; rw [if_neg e], by unfold sgI scN; rw [if_neg e, if_neg e]⟩
end Go.Proofs.YtiaepihdfbahaaaGreatDoor
namespace Go.Proofs.YtiaepihdfbahaaaGreatDoor
open Go.RowKit

theorem dec_nat (u : Nat) : Lib.decDigits u = natD u := by
  induction u using Nat.strongRecOn with
  | _ u ih =>
    rw [Lib.decDigits, natD]
    by_cases h : u < 10
    · rw [dif_pos h, if_pos h]
    · rw [dif_neg h, if_neg h, ih (u / 10) (by omega)]
theorem itoa_txt (n : Int) : Lib.itoa n = txt n := by
  unfold Lib.itoa txt
  by_cases h : n < 0
  · rw [if_pos h, if_pos h, dec_nat, show n.natAbs = (-n).toNat by omega]
  · rw [if_neg h, if_neg h, dec_nat]
theorem pum (D R : List UInt8) (hD : D.all isD = true) : ∀ acc : Nat, Lib.parseUintM 18446744073709551615 acc (D ++ R) = if acc * 10 ^ D.length + pval D ≤ 18446744073709551615 ∨ D = [] then Lib.parseUintM 18446744073709551615 (acc * 10 ^ D.length + pval D) R else .range := by
  induction D with
  | nil => intro acc; rw [if_pos (Or.inr rfl)]; simp [pval]
  | cons a D ih =>
    intro acc
    have hD' : D.all isD = true := by rw [List.all_cons, Bool.and_eq_true] at hD; exact hD.2
    have ha : isD a = true := by rw [List.all_cons, Bool.and_eq_true] at hD; exact hD.1
    have hb := isD_bd ha
    have hc := pval_cons a D hD
    have hk : 1 ≤ 10 ^ D.length := Nat.one_le_pow _ _ (by decide)
    have e : acc * 10 ^ (a :: D).length + pval (a :: D) = (acc * 10 + (a.toNat - 48)) * 10 ^ D.length + pval D := by
      rw [hc, List.length_cons, Nat.pow_succ, Nat.add_mul, Nat.mul_assoc acc 10, Nat.mul_comm 10]; omega
    rw [e, List.cons_append, Lib.parseUintM, if_pos hb]
    have hge : acc * 10 + (a.toNat - 48) ≤ (acc * 10 + (a.toNat - 48)) * 10 ^ D.length := Nat.le_mul_of_pos_right _ hk
    by_cases h1 : 1844674407370955162 ≤ acc
    · rw [if_pos h1, if_neg (by intro h; rcases h with h | h; omega; cases h)]
    · rw [if_neg h1]
      by_cases h2 : 18446744073709551615 < acc * 10 + (a.toNat - 48)
      · rw [if_pos h2, if_neg (by intro h; rcases h with h | h; omega; cases h)]
      · rw [if_neg h2, ih hD']
        by_cases h3 : (acc * 10 + (a.toNat - 48)) * 10 ^ D.length + pval D ≤ 18446744073709551615
        · rw [if_pos (Or.inl h3), if_pos (Or.inl h3)]
        · by_cases h4 : D = []
          · subst h4
            exfalso; apply h3
            simp [pval]; omega
          · rw [if_neg (by intro h; exact h.elim h3 h4), if_neg (by intro h; rcases h with h | h; exact h3 h; cases h)]
theorem pub (D R : List UInt8) (hD : D.all isD = true) (h0 : ¬ D = []) : Lib.parseUintB 64 (D ++ R) = if pval D ≤ 18446744073709551615 then Lib.parseUintM 18446744073709551615 (pval D) R else .range := by
  unfold Lib.parseUintB
  rw [if_neg (by intro h; exact h0 (List.append_eq_nil_iff.1 h).1), show 2 ^ 64 - 1 = 18446744073709551615 by decide, pum D R hD 0]
  simp [h0]
theorem pum_no (R : List UInt8) (h0 : ¬ R = []) (hR : isD (R.getD 0 0) = false) (acc u : Nat) : ¬ Lib.parseUintM 18446744073709551615 acc R = .ok u := by
  cases R with
  | nil => exact absurd rfl h0
  | cons c R =>
    have : ¬ (48 ≤ c.toNat ∧ c.toNat ≤ 57) := by
      intro h; have e : isD c = true := by unfold isD; rw [decide_eq_true h.1, decide_eq_true h.2]; rfl
      rw [List.getD_cons_zero, e] at hR; cases hR
    rw [Lib.parseUintM, if_neg this]; intro e; cases e
/-- how the library reads a text of ours: a sign, digits, the rest -/
theorem pib (l : List UInt8) (hW : ¬ pW l = []) :
    (∀ u, Lib.parseUintB 64 (pW l ++ pR l) = .ok u → Lib.parseIntB 64 l = if ¬ pNeg l = true ∧ 9223372036854775808 ≤ u then .range else if pNeg l = true ∧ 9223372036854775808 < u then .range else .ok (if pNeg l = true then -(u : Int) else u)) ∧
    ((∀ u, ¬ Lib.parseUintB 64 (pW l ++ pR l) = .ok u) → ∀ v, ¬ Lib.parseIntB 64 l = .ok v) := by
  rw [pWR]
  cases l with
  | nil => exact absurd rfl hW
  | cons c r =>
    unfold Lib.parseIntB
    have hp : pNeg (c :: r) = decide (c.toNat = 45) := rfl
    have h63 : 2 ^ (64 - 1) = 9223372036854775808 := by decide
    simp only [h63]
    by_cases h : c.toNat = 45
    · have e : pU (c :: r) = r := by unfold pU; rw [hp, decide_eq_true h]; rfl
      rw [if_pos (Or.inr h), e, hp, decide_eq_true h]
      refine ⟨fun u hu => ?_, fun hu v => ?_⟩
      · rw [hu]; simp [h]
      · rcases hq : Lib.parseUintB 64 r with a | _ | _
        · exact absurd hq (hu a)
        · simp
        · simp
    · have e : pU (c :: r) = c :: r := by unfold pU; rw [hp, decide_eq_false h]; rfl
      have h43 : ¬ c.toNat = 43 := by
        intro h2; apply hW
        unfold pW; rw [e]
        have : isD c = false := by unfold isD; rw [h2]; rfl
        rw [List.takeWhile_cons, this]; rfl
      rw [if_neg (by intro k; exact k.elim h43 h), e, hp, decide_eq_false h]
      refine ⟨fun u hu => ?_, fun hu v => ?_⟩
      · rw [hu]; simp [h]
      · rcases hq : Lib.parseUintB 64 (c :: r) with a | _ | _
        · exact absurd hq (hu a)
        · simp
        · simp
theorem int_parts (l : List UInt8) (hn : numB l = true) : ¬ pW l = [] ∧ ((pF l = [] ∧ pP l = []) ↔ pR l = []) := by
  have hs := num_split l
  rw [hn] at hs
  have h1 : pWok l = true := by cases h : pWok l with
    | true => rfl
    | false => rw [h] at hs; simp at hs
  have h2 : pFok l = true := by cases h : pFok l with
    | true => rfl
    | false => rw [h] at hs; simp at hs
  have h3 : pEok l = true := by
    have h : rpB (pS l) = true := by cases h : rpB (pS l) with
      | true => rfl
      | false => rw [h] at hs; simp at hs
    rw [rp_of, Bool.and_eq_true] at h; exact h.1
  refine ⟨?_, ?_, ?_⟩
  · intro h; unfold pWok at h1; rw [h] at h1; simp at h1
  · rintro ⟨hF, hP⟩
    have hd : pDot l = false := by
      cases h : pDot l with
      | false => rfl
      | true => unfold pFok at h2; rw [h, hF] at h2; simp at h2
    have hS : pS l = pR l := by unfold pS; rw [hd]; rfl
    rw [← hS]
    unfold pEok at h3
    rw [hP] at h3
    apply Classical.byContradiction; intro h
    rw [decide_eq_false h] at h3
    simp [pD, pSg] at h3
  · intro h
    have hd : pDot l = false := by unfold pDot; rw [h]; rfl
    refine ⟨by unfold pF; rw [hd]; rfl, ?_⟩
    unfold pP pS; rw [hd]; simp [h]
theorem int_par (l : List UInt8) (hn : numB l = true) (h0 : ¬ l = [45, 48]) :
    (intB l = true → Lib.parseIntB 64 l = .ok (intV l)) ∧ (intB l = false → ∀ v, ¬ Lib.parseIntB 64 l = .ok v) := by
  obtain ⟨hW, hR⟩ := int_parts l hn
  obtain ⟨P1, P2⟩ := pib l hW
  rw [pub (pW l) (pR l) (tw_all _) hW] at P1 P2
  have hib : intB l = (decide (pR l = []) && (if pNeg l then decide (pval (pW l) ≤ 9223372036854775808) else decide (pval (pW l) < 9223372036854775808))) := by
    unfold intB; rw [hn, decide_eq_false h0]
    by_cases h : pR l = []
    · obtain ⟨a, b⟩ := hR.2 h
      rw [decide_eq_true a, decide_eq_true b, decide_eq_true h]; rfl
    · rw [decide_eq_false h, Bool.false_and]
      by_cases a : pF l = []
      · have b : ¬ pP l = [] := fun b => h (hR.1 ⟨a, b⟩)
        rw [decide_eq_false b]; simp
      · rw [decide_eq_false a]; simp
  by_cases h : pR l = []
  · rw [hib, h, decide_eq_true rfl, Bool.true_and]
    unfold intV
    rw [hib, h, decide_eq_true rfl, Bool.true_and]
    by_cases hu : pval (pW l) ≤ 18446744073709551615
    · have P3 := P1 (pval (pW l)) (by rw [if_pos hu, h, Lib.parseUintM])
      rw [P3]
      cases hp : pNeg l
      · simp only [Bool.false_eq_true, if_false, not_false_eq_true, true_and, false_and]
        constructor
        · intro g
          have g' := of_decide_eq_true g
          rw [if_neg (by omega), g]; rfl
        · intro g v
          have g' := of_decide_eq_false g
          rw [if_pos (by omega)]; intro e; cases e
      · simp only [not_true_eq_false, if_true, true_and, false_and]
        constructor
        · intro g
          have g' := of_decide_eq_true g
          rw [if_neg (by simp), if_neg (by omega), g]; rfl
        · intro g v
          have g' := of_decide_eq_false g
          rw [if_neg (by simp), if_pos (by omega)]; intro e; cases e
    · constructor
      · intro g
        exfalso
        cases hp : pNeg l
        · rw [hp] at g; have := of_decide_eq_true g; omega
        · rw [hp] at g; have := of_decide_eq_true g; omega
      · intro _ v
        exact P2 (fun u => by rw [if_neg hu]; intro e; cases e) v
  · rw [hib, decide_eq_false h, Bool.false_and]
    refine ⟨fun g => (by cases g), fun _ => P2 fun u => ?_⟩
    have hd : isD ((pR l).getD 0 0) = false := by
      have : pR l = (pU l).drop (runN (pU l)) := (runN_drop _).symm
      have hlt : runN (pU l) < (pU l).length := by
        apply Classical.byContradiction; intro k; apply h; rw [this]; exact List.drop_eq_nil_of_le (by omega)
      have g := runN_at (pU l) hlt
      rw [this]
      simpa [List.getD, List.getElem?_drop] using g
    by_cases hu : pval (pW l) ≤ 18446744073709551615
    · rw [if_pos hu]; exact pum_no (pR l) h hd _ u
    · rw [if_neg hu]; intro e; cases e
end Go.Proofs.YtiaepihdfbahaaaGreatDoor
