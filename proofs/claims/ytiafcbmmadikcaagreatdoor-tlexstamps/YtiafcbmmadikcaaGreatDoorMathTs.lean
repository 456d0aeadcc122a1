/- Cutting texts at a byte; days, times and stamps of chapter 10: plain mathematics. -/
import Derived.Test.YtiafcbmmadikcaaGreatDoorMathTl
import Derived.Lib.Replace
import Derived.Lib.SplitLaws
import Derived.Lib.IndexBytes
namespace Go.Proofs.YtiafcbmmadikcaaGreatDoor

/-- a byte that is not a certain one -/
def neB (c b : UInt8) : Bool := !decide (b.toNat = c.toNat)
theorem neB_self (c : UInt8) : neB c c = false := by simp [neB]
theorem neB_eq {c b : UInt8} (h : neB c b = false) : b = c := by
  unfold neB at h
  exact UInt8.toNat_inj.1 (by simpa using h)
theorem neB_ne {c b : UInt8} (h : b ≠ c) : neB c b = true := by
  unfold neB
  simp [UInt8.toNat_inj, h]
theorem run_cpos {p : UInt8 → Bool} {b : UInt8} {l : List UInt8} (h : p b = true) : run p (b :: l) = run p l + 1 := by unfold run; rw [List.takeWhile_cons_of_pos h]; rfl
theorem run_cneg {p : UInt8 → Bool} {b : UInt8} {l : List UInt8} (h : p b = false) : run p (b :: l) = 0 := by unfold run; rw [List.takeWhile_cons_of_neg (by rw [h]; decide)]; rfl
theorem ixB_run (c : UInt8) : ∀ l : List UInt8, Lib.indexByte l c = if run (neB c) l < l.length then (run (neB c) l : Int) else -1
  | [] => rfl
  | b :: l => by
    have ih := ixB_run c l
    unfold Lib.indexByte
    by_cases h : b = c
    · subst h
      rw [run_cneg (neB_self b), if_pos (by simp)]; simp
    · have h2 : ¬ (b == c) = true := by simpa using h
      rw [run_cpos (neB_ne h)]
      simp only [List.length_cons]
      rw [if_neg h2, ih]
      by_cases k : run (neB c) l < l.length
      · rw [if_pos k, if_neg (by intro e; have := beq_iff_eq.1 e; omega), if_pos (by omega)]; omega
      · rw [if_neg k, if_pos (by decide), if_neg (by omega)]
/-- a text cut at each of a byte -/
def spl (c : UInt8) : List UInt8 → List (List UInt8)
  | [] => [[]]
  | b :: l => if neB c b = true then (match spl c l with
    | [] => [[b]]
    | h :: t => (b :: h) :: t) else [] :: spl c l
theorem spl_ne (c : UInt8) : ∀ l : List UInt8, ∃ h t, spl c l = h :: t
  | [] => ⟨[], [], rfl⟩
  | b :: l => by
    obtain ⟨h, t, e⟩ := spl_ne c l
    rw [spl, e]
    by_cases k : neB c b = true
    · rw [if_pos k]; exact ⟨_, _, rfl⟩
    · rw [if_neg k]; exact ⟨_, _, rfl⟩
theorem spl_run (c : UInt8) : ∀ l : List UInt8, spl c l = if run (neB c) l < l.length then l.take (run (neB c) l) :: spl c (l.drop (run (neB c) l + 1)) else [l]
  | [] => rfl
  | b :: l => by
    have ih := spl_run c l
    by_cases k : neB c b = true
    · rw [spl, if_pos k, run_cpos k]
      simp only [List.length_cons]
      by_cases h : run (neB c) l < l.length
      · rw [if_pos h] at ih
        rw [if_pos (by omega), ih]; rfl
      · rw [if_neg h] at ih
        rw [if_neg (by omega), ih]
    · have k2 : neB c b = false := by simpa using k
      rw [spl, if_neg k, run_cneg k2, if_pos (by simp)]; rfl
theorem run_full {p : UInt8 → Bool} : ∀ {l : List UInt8}, (∀ b ∈ l, p b = true) → run p l = l.length
  | [], _ => rfl
  | b :: l, h => by
    rw [run_cpos (h b (List.mem_cons_self ..)), run_full (fun x hx => h x (List.mem_cons_of_mem _ hx))]; rfl
theorem count_run (c : UInt8) : ∀ l : List UInt8, l.count c = if run (neB c) l < l.length then 1 + (l.drop (run (neB c) l + 1)).count c else 0
  | [] => rfl
  | b :: l => by
    have ih := count_run c l
    by_cases k : neB c b = true
    · have hbc : b ≠ c := by intro e; subst e; rw [neB_self] at k; cases k
      rw [List.count_cons_of_ne (fun e => hbc e), run_cpos k]
      simp only [List.length_cons]
      by_cases h : run (neB c) l < l.length
      · rw [if_pos h] at ih
        rw [if_pos (by omega), ih]; rfl
      · rw [if_neg h] at ih
        rw [if_neg (by omega), ih]
    · have k2 : neB c b = false := by simpa using k
      have e := neB_eq k2
      subst e
      rw [run_cneg k2, if_pos (by simp), List.count_cons_self]; simp; omega
theorem splitK_spl (c : UInt8) : ∀ (k : Nat) (l : List UInt8), l.count c = k → Lib.splitK [c] 0 k l = spl c l
  | 0, l, h => by
    rw [count_run] at h
    rw [spl_run]
    by_cases hr : run (neB c) l < l.length
    · rw [if_pos hr] at h; omega
    · rw [if_neg hr]; rfl
  | k + 1, l, h => by
    rw [count_run] at h
    by_cases hr : run (neB c) l < l.length
    · rw [if_pos hr] at h
      have e : Lib.index l [c] = (run (neB c) l : Int) := by rw [Lib.index_one, ixB_run, if_pos hr]
      rw [Lib.splitK, e, if_neg (by intro e2; have := beq_iff_eq.1 e2; omega), spl_run, if_pos hr]
      have ih := splitK_spl c k (l.drop (run (neB c) l + 1)) (by omega)
      rw [← ih]; simp
    · rw [if_neg hr] at h; omega
theorem split_spl (c : UInt8) (s : ByteArray) (sep : ByteArray) (hs : sep.data.toList = [c]) : (Lib.splitB sep 0 (Lib.countB s sep) s).map (·.data.toList) = spl c s.data.toList := by
  rw [Lib.splitB_data, hs]
  have e : Lib.countB s sep = s.data.toList.count c := by
    have : Lib.countB s sep = Lib.count s.data.toList sep.data.toList := rfl
    rw [this, hs, Lib.count_one]
  rw [e]; exact splitK_spl c _ _ rfl
theorem filter_run (c : UInt8) : ∀ l : List UInt8, l.filter (neB c) = if run (neB c) l < l.length then l.take (run (neB c) l) ++ (l.drop (run (neB c) l + 1)).filter (neB c) else l
  | [] => rfl
  | b :: l => by
    have ih := filter_run c l
    by_cases k : neB c b = true
    · rw [List.filter_cons_of_pos k, run_cpos k]
      simp only [List.length_cons]
      by_cases h : run (neB c) l < l.length
      · rw [if_pos h] at ih
        rw [if_pos (by omega), ih]; rfl
      · rw [if_neg h] at ih
        rw [if_neg (by omega), ih]
    · have k2 : neB c b = false := by simpa using k
      rw [List.filter_cons_of_neg k, run_cneg k2, if_pos (by simp)]; rfl
theorem replaceK_filter (c : UInt8) : ∀ (k : Nat) (l : List UInt8), l.count c = k → Lib.replaceK [c] [] k l = l.filter (neB c)
  | 0, l, h => by
    rw [count_run] at h
    rw [filter_run]
    by_cases hr : run (neB c) l < l.length
    · rw [if_pos hr] at h; omega
    · rw [if_neg hr]; rfl
  | k + 1, l, h => by
    rw [count_run] at h
    by_cases hr : run (neB c) l < l.length
    · rw [if_pos hr] at h
      have e : Lib.index l [c] = (run (neB c) l : Int) := by rw [Lib.index_one, ixB_run, if_pos hr]
      rw [Lib.replaceK_hit _ _ _ _ _ e, filter_run, if_pos hr]
      have ih := replaceK_filter c k (l.drop (run (neB c) l + 1)) (by omega)
      rw [← ih]; simp
    · rw [if_neg hr] at h; omega
theorem replaceAll_cln (l : List UInt8) : Lib.replaceAll l [95] [] = clnS l := by
  unfold Lib.replaceAll Lib.replace
  rw [if_neg (by decide)]
  unfold Lib.replaceNum
  rw [if_pos (Or.inl (by decide)), Lib.count_one, replaceK_filter 95 _ l rfl]; rfl
theorem cut_run (c : UInt8) (l : List UInt8) : Lib.cut l [c] = (l.take (run (neB c) l), l.drop (run (neB c) l + 1), decide (run (neB c) l < l.length)) := by
  unfold Lib.cut
  rw [Lib.index_one, ixB_run]
  by_cases h : run (neB c) l < l.length
  · rw [if_pos h, if_pos (by omega), decide_eq_true h]; simp
  · have hle : run (neB c) l ≤ l.length := by unfold run; exact (List.takeWhile_sublist _).length_le
    rw [if_neg h, if_neg (by decide), decide_eq_false h, List.take_of_length_le (by omega), List.drop_eq_nil_of_le (by omega)]

/-- two digits at a place, and what they say -/
def dgA (l : List UInt8) (k : Nat) : Bool := decide (48 ≤ bt l k ∧ bt l k ≤ 57)
def is2 (l : List UInt8) (k : Nat) : Bool := dgA l k && dgA l (k + 1)
def dg2 (l : List UInt8) (k : Nat) : Nat := (bt l k - 48) * 10 + (bt l (k + 1) - 48)
/-- a month's days -/
def dim (y m : Nat) : Nat := if m = 4 ∨ m = 6 ∨ m = 9 ∨ m = 11 then 30 else if m = 2 then (if (y % 4 = 0 ∧ y % 100 ≠ 0) ∨ y % 400 = 0 then 29 else 28) else 31
/-- a day that there is -/
def dayS (l : List UInt8) : Bool := decide (l.length = 10) && is2 l 0 && is2 l 2 && decide (bt l 4 = 45) && is2 l 5 && decide (bt l 7 = 45) && is2 l 8
def dayB (l : List UInt8) : Bool := dayS l && decide (1 ≤ dg2 l 5 ∧ dg2 l 5 ≤ 12 ∧ 1 ≤ dg2 l 8 ∧ dg2 l 8 ≤ dim (dg2 l 0 * 100 + dg2 l 2) (dg2 l 5))
/-- two digits below a bound -/
def twoB (l : List UInt8) (n : Nat) : Bool := decide (l.length = 2) && is2 l 0 && decide (dg2 l 0 < n)
/-- parts, each below its bound -/
def ckS : List (List UInt8) → List Nat → Bool
  | [], [] => true
  | p :: ps, n :: ns => twoB p n && ckS ps ns
  | _, _ => false
/-- a time -/
def ckH (l : List UInt8) : List UInt8 := l.take (run (neB 46) l)
def ckF (l : List UInt8) : List UInt8 := l.drop (run (neB 46) l + 1)
def ckD (l : List UInt8) : Bool := decide (run (neB 46) l < l.length)
def dgI (b : UInt8) : Bool := decide (48 ≤ b.toNat ∧ b.toNat ≤ 57)
def frB (l : List UInt8) : Bool := decide (l ≠ []) && decide (l.length ≤ 9) && decide (run dgI l = l.length)
def tmB (l : List UInt8) : Bool := ckS (spl 58 (ckH l)) [24, 60, 61] && (!ckD l || frB (ckF l))
/-- without the zone -/
def znB (l : List UInt8) : Bool := decide (bt l (l.length - 1) = 90 ∨ bt l (l.length - 1) = 122)
def zoB (l : List UInt8) : Bool := decide (6 ≤ l.length) && decide (bt l (l.length - 6) = 43 ∨ bt l (l.length - 6) = 45) && ckS (spl 58 (l.drop (l.length - 6 + 1))) [24, 60]
def znT (l : List UInt8) : List UInt8 := if l ≠ [] ∧ znB l = true then l.take (l.length - 1) else if zoB l = true then l.take (l.length - 6) else l
/-- a stamp -/
def stB (l : List UInt8) : Bool := dayB l || tmB l || (decide (10 < l.length) && dayB (l.take 10) && decide (bt l 10 = 84 ∨ bt l 10 = 116 ∨ bt l 10 = 32) && tmB (znT (l.drop 11)))
end Go.Proofs.YtiafcbmmadikcaaGreatDoor
