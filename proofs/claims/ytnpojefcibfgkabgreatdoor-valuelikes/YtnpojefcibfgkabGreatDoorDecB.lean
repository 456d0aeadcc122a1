/- Package dec, walked: the one number that stands for a text. -/
import Derived.Test.YtnpojefcibfgkabGreatDoorDecA
namespace Go.Proofs.YtnpojefcibfgkabGreatDoor
open Go.RowKit

theorem below_drewN {B : Nat} {a w : World} (h : Below B a w) (n : Nat) : Below B a (w.drewN n) := h.trans ⟨rfl, rfl, rfl, Nat.le_refl _, fun _ _ => rfl⟩
theorem triml_any (s : ByteArray) (w : World) :
    Calls Tryz.prog 72 #[.string s, .string ⟨#[48]⟩] w fun e w' => e = .returned (.string (mkS (lst s.data.toList))) ∧ w' = w := by
  have := Tryz.strings_TrimLeft_one s 48 (by decide) w
  rw [trim_l] at this; exact this
theorem trimr_any (s : ByteArray) (w : World) (hs : s.size ≤ 1000) :
    Calls Tryz.prog 73 #[.string s, .string ⟨#[48]⟩] w fun e w' => e = .returned (.string (mkS (rst s.data.toList))) ∧ w' = w := by
  have := Tryz.strings_TrimRight_one s 48 (by decide) w (by omega)
  rw [trim_r] at this; exact this
theorem agg_eq {i j n m : Int} {s t : ByteArray} (h : i = j) (g : s = t) (k : n = m) : Ending.returned (.agg #[.int .i64 i, .string s, .int .i64 n]) = .returned (.agg #[.int .i64 j, .string t, .int .i64 m]) := by rw [h, g, k]
/-- what plain answers -/
def plV (b : Bool) (a f : List UInt8) (p : Int) : Value :=
  if lst (a ++ f) = [] then noV else .agg #[.int .i64 (if b then -1 else 1), .string (mkS (rst (lst (a ++ f)))), .int .i64 (p + a.length - 1 - lz (a ++ f))]
set_option maxRecDepth 100000 in
set_option maxHeartbeats 1000000 in
theorem plain_any (b : Bool) (a f : ByteArray) (p : Int) (w : World) (ha : a.size ≤ 400) (hf : f.size ≤ 400) (hp : -100000 ≤ p ∧ p ≤ 100000) :
    Calls Tryz.prog 50 #[.bool b, .string a, .string f, .int .i64 p] w fun e w' => e = .returned (plV b a.data.toList f.data.toList p) ∧ ((∃ o, w' = w.alloc o) ∨ ∃ o u, w' = (w.alloc o).alloc u) := by
  obtain ⟨x, hx⟩ : ∃ x, a ++ f = x := ⟨_, rfl⟩
  have HX := hid (show x.data.toList = a.data.toList ++ f.data.toList by rw [← hx]; simp)
  have hxs : x.size = a.size + f.size := by rw [← hx]; simp
  obtain ⟨d, hd⟩ : ∃ d, mkS (lst x.data.toList) = d := ⟨_, rfl⟩
  have HD := hid (show d.data.toList = lst x.data.toList by rw [← hd, mkS_list])
  have hlz := lz_len x.data.toList
  have hds : d.size + lz x.data.toList = x.size := by rw [← size_list d, ← size_list x, HD.out]; exact hlz
  have tl : ∀ w, Calls Tryz.prog 72 #[.string x, .string ⟨#[48]⟩] w fun e w' => e = .returned (.string d) ∧ w' = w := fun w => by
    have := triml_any x w; rw [hd] at this; exact this
  have hds' : d.size ≤ 1000 := by omega
  obtain ⟨r, hr⟩ : ∃ d, mkS (rst (lst x.data.toList)) = d := ⟨_, rfl⟩
  have tr : ∀ w, Calls Tryz.prog 73 #[.string d, .string ⟨#[48]⟩] w fun e w' => e = .returned (.string r) ∧ w' = w := fun w => by
    have := trimr_any d w hds'; rw [HD.out, hr] at this; exact this
  have HR := hid hr
  have HZ := hid (show lz x.data.toList = x.size - d.size by omega)
  have HL := hid (size_list a)
  clear hd hr hlz
  by_cases he : d.data.toList = []
  · have h1 := emp_yes d he
    have H := hid (show lst (a.data.toList ++ f.data.toList) = [] by rw [← HX.out, ← HD.out]; exact he)
    clear he
    go_enter Tryz.func50, Tryz.ntmps50
    go_wp2_with (go_at_call 72; go_must (refine (tl _).mono ?_; rintro e w' ⟨rfl, hw⟩; obtain rfl := hw.symm))
    refine bodyPost_ret (v := noV) (by simp [results, Tryz.results50, go_sem, noV]) rfl ⟨?_, Or.inl ⟨_, rfl⟩⟩
    unfold plV; rw [if_pos H.out]
  · have h1 := emp_no d he
    have H := hid (show ¬ lst (a.data.toList ++ f.data.toList) = [] by rw [← HX.out, ← HD.out]; exact he)
    clear he
    have hlz0 : d.size ≤ x.size := by omega
    cases b
    · go_enter Tryz.func50, Tryz.ntmps50
      go_wp2_with (first
        | (go_at_call 72; go_must (refine (tl _).mono ?_; rintro e w' ⟨rfl, hw⟩; obtain rfl := hw.symm))
        | (go_at_call 73; go_must (refine (tr _).mono ?_; rintro e w' ⟨rfl, hw⟩; obtain rfl := hw.symm)))
      refine bodyPost_ret (v := .agg #[.int .i64 1, .string r, .int .i64 (p + a.size - 1 - (((a.size : Int) + f.size) - d.size))]) (by simp [results, Tryz.results50, go_sem]) rfl ⟨?_, Or.inr ⟨_, _, rfl⟩⟩
      unfold plV; rw [if_neg H.out, ← HX.out, HR.out, HZ.out, HL.out]
      exact agg_eq rfl rfl (by omega)
    · go_enter Tryz.func50, Tryz.ntmps50
      go_wp2_with (first
        | (go_at_call 72; go_must (refine (tl _).mono ?_; rintro e w' ⟨rfl, hw⟩; obtain rfl := hw.symm))
        | (go_at_call 73; go_must (refine (tr _).mono ?_; rintro e w' ⟨rfl, hw⟩; obtain rfl := hw.symm)))
      refine bodyPost_ret (v := .agg #[.int .i64 (-1), .string r, .int .i64 (p + a.size - 1 - (((a.size : Int) + f.size) - d.size))]) (by simp [results, Tryz.results50, go_sem]) rfl ⟨?_, Or.inr ⟨_, _, rfl⟩⟩
      unfold plV; rw [if_neg H.out, ← HX.out, HR.out, HZ.out, HL.out]
      exact agg_eq rfl rfl (by omega)
end Go.Proofs.YtnpojefcibfgkabGreatDoor
