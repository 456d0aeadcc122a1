/- Pairs cloned and put in order by the library, as value.Map asks it to. -/
import Derived.Test.YtnpojefcibfgkabGreatDoorVRow
import Derived.Test.YtnpojefcibfgkabGreatDoorShelf
import Derived.Test.YtnpojefcibfgkabGreatDoorShelf2
import Derived.Test.YtnpojefcibfgkabGreatDoorMathDecAll
namespace Go.Proofs.YtnpojefcibfgkabGreatDoor
open Go.RowKit Go.Shelf Go.Sort

/-- a pair's cells -/
abbrev PE := ByteArray × Int × Int × ByteArray × (Option Addr × Nat × Nat) × (Option Addr × Nat × Nat)
def encP (e : PE) : List Value := [.string e.1, .int .i64 e.2.1, .int .i64 e.2.2.1, .string e.2.2.2.1, .slice e.2.2.2.2.1.1 e.2.2.2.2.1.2.1 e.2.2.2.2.1.2.2, .slice e.2.2.2.2.2.1 e.2.2.2.2.2.2.1 e.2.2.2.2.2.2.2]
def slc : Value → Option Addr × Nat × Nat | .slice o n c => (o, n, c) | _ => (none, 0, 0)
def peOf (c : ByteArray) (t : VT) (x y : Value) : PE := (c, t.kd, t.nm, t.st, slc x, slc y)
theorem enc_pe (c : ByteArray) (t : VT) (o1 : Option Addr) (n1 c1 : Nat) (o2 : Option Addr) (n2 c2 : Nat) : encP (peOf c t (.slice o1 n1 c1) (.slice o2 n2 c2)) = [.string c, .int .i64 t.kd, .int .i64 t.nm, .string t.st, .slice o1 n1 c1, .slice o2 n2 c2] := rfl
theorem enc_len (e : PE) : (encP e).length = 6 := rfl
theorem enc_one (e : PE) : ∀ v ∈ encP e, v.oneCell' = true := by
  intro v hv
  simp only [encP, List.mem_cons, List.not_mem_nil, or_false] at hv
  rcases hv with rfl | rfl | rfl | rfl | rfl | rfl <;> rfl
/-- how the pairs are put in order -/
def cfP (x y : PE) : Int := Lib.compareBytes x.1.data.toList y.1.data.toList
theorem cmp_lt : ∀ a b : List UInt8, (decide (Lib.compareBytes a b < 0)) = ltB a b
  | [], [] => rfl
  | [], _ :: _ => rfl
  | _ :: _, [] => rfl
  | a :: l, b :: m => by
    rw [ltB_cons, Lib.compareBytes]
    by_cases h1 : a < b
    · rw [if_pos h1, decide_eq_true h1]; rfl
    · rw [if_neg h1, decide_eq_false h1]
      by_cases h2 : b < a
      · have h3 : (a == b) = false := by rw [beq_eq_false_iff_ne]; rintro rfl; exact h1 h2
        rw [if_pos h2, h3]; rfl
      · have h3 : a = b := UInt8.le_antisymm (by simpa using h2) (by simpa using h1)
        rw [if_neg h2, cmp_lt l m, h3]; simp
theorem ltP (x y : PE) : ltOf cfP x y = ltB x.1.data.toList y.1.data.toList := cmp_lt _ _
theorem ltB_nt (a b c : List UInt8) (h1 : ltB a b = false) (h2 : ltB b c = false) : ltB a c = false := by
  cases h : ltB a c with
  | false => rfl
  | true =>
    rcases ltB_tri b c with ⟨h3, _, _⟩ | h3 | ⟨_, h3, _⟩
    · rw [h2] at h3; cases h3
    · rw [h3] at h1; rw [h1] at h; cases h
    · have := ltB_trans a c b h h3; rw [h1] at this; cases this
theorem swoP : SWO (ltOf cfP) where
  irrefl x := by rw [ltP]; exact ltB_irr _
  trans x y z h1 h2 := by rw [ltP] at *; exact ltB_trans _ _ _ h1 h2
  ntrans x y z h1 h2 := by rw [ltP] at *; exact ltB_nt _ _ _ h1 h2
set_option maxRecDepth 100000 in
set_option maxHeartbeats 400000 in
/-- the order that Map hands to the library -/
theorem lit_map (x y : PE) (W : World) : Calls Tryz.prog 30 #[.agg (encP x).toArray, .agg (encP y).toArray] W fun e w' => e = .returned (.int .i64 (cfP x y)) ∧ ∃ q os', w' = grow (W.drewN q) os' := by
  have hcon := hid (fun W' => Tryz.strings_Compare x.1 y.1 W')
  have HR := hid (show cfP x y = Lib.compareBytes x.1.data.toList y.1.data.toList from rfl)
  generalize Lib.compareBytes x.1.data.toList y.1.data.toList = r at hcon HR
  obtain ⟨c, k, n, s, ⟨o1, n1, c1⟩, ⟨o2, n2, c2⟩⟩ := x
  obtain ⟨c', k', n', s', ⟨o1', n1', c1'⟩, ⟨o2', n2', c2'⟩⟩ := y
  simp only [encP] at hcon HR ⊢
  go_enter Tryz.func30, Tryz.ntmps30
  go_wp2_with (go_at_call 31; go_must (refine (hcon.out _).mono ?_; rintro e w' ⟨rfl, rfl⟩))
  go_ret
  exact ⟨ret_int HR.out.symm, 0, _, by rw [alloc_eq_grow, alloc_eq_grow, grow_grow]; rfl⟩
theorem chg_sort (w : World) (b o n : Nat) (d : Array PE) (os : Array Obj) : Chg b (b + 1) w (sortWorldK encP 6 w b o n d os) := by
  refine ⟨rfl, rfl, rfl, size_sortWorldK_c encP 6 w b o n d os, fun k hk hn => ?_⟩
  show ((w.heap.modify b _) ++ os)[k]? = _
  rw [Array.getElem?_append_left (by simpa using hk), Array.getElem?_modify, if_neg (by omega)]
/-- a permutation of images is the image of a permutation -/
theorem perm_lift {α β : Type} (f : α → β) : ∀ {l' l : List β}, l'.Perm l → ∀ A : List α, A.map f = l → ∃ A' : List α, A'.Perm A ∧ A'.map f = l' := by
  intro l' l h
  induction h with
  | nil => intro A hA; exact ⟨A, List.Perm.refl _, hA⟩
  | cons x _ ih =>
    intro A hA
    cases A with
    | nil => simp at hA
    | cons a r =>
      simp at hA
      obtain ⟨A', h1, h2⟩ := ih r hA.2
      exact ⟨a :: A', h1.cons a, by simp [h2, hA.1]⟩
  | swap x y l =>
    intro A hA
    match A, hA with
    | a :: b :: r, hA =>
      simp at hA
      exact ⟨b :: a :: r, List.Perm.swap a b r, by simp [hA.1, hA.2.1, hA.2.2]⟩
  | trans _ _ ih1 ih2 =>
    intro A hA
    obtain ⟨B, h1, h2⟩ := ih2 A hA
    obtain ⟨C, h3, h4⟩ := ih1 B h2
    exact ⟨C, h3.trans h1, h4⟩
end Go.Proofs.YtnpojefcibfgkabGreatDoor
