/- ValueLikes, walked over what its callees answer. -/
import Derived.Test.YtnpojefcibfgkabGreatDoorVBox
import Derived.Test.YtnpojefcibfgkabGreatDoorVAlike
import Derived.Test.YtnpojefcibfgkabGreatDoorRefVal2
import Derived.Test.YtnpojefcibfgkabGreatDoorVLike
import Derived.Test.YtnpojefcibfgkabGreatDoorAbove
namespace Go.Proofs.YtnpojefcibfgkabGreatDoor
open Go.RowKit

mutual
theorem like_self : ∀ T : VT, sameT false T T = true
  | .mk k n s L K V => by
    have h1 := likeL_self L
    have h2 := likeL_self V
    simp only [sameT, VT.kd, VT.nm, VT.st, VT.ls, VT.ks, VT.vs, strB, h1, h2]
    simp
theorem likeL_self : ∀ L : List VT, sameL false L L = true
  | [] => by simp [sameL]
  | t :: r => by have h1 := like_self t; have h2 := likeL_self r; simp only [sameL, h1, h2, Bool.and_self]
end

set_option maxRecDepth 100000 in
set_option maxHeartbeats 8000000 in
theorem likes_of (AW : ∀ w, Glob w → Calls Tryz.prog 4 #[] w fun e w' => e = .returned (.bool true) ∧ Below w.heap.size w w')
    (A B C : VT) (x y x' y' x'' y'' : Value) (w : World) (hg : Glob w) (hA : HV w A x y) (hB : HV w B x' y') (hC : HV w C x'' y'') :
    Calls Tryz.prog 3 #[vv A x y, vv B x' y', vv C x'' y''] w fun e w' => e = .returned (.bool true) ∧ Below w.heap.size w w' := by
  have HAW := hid AW
  have HG := hid hg
  have HA := hid hA
  have HB := hid hB
  have HC := hid hC
  clear AW hg
  obtain ⟨o1, n1, c1, o2, n2, c2, rfl, rfl⟩ := hv_slices hA
  obtain ⟨o3, n3, c3, o4, n4, c4, rfl, rfl⟩ := hv_slices hB
  obtain ⟨o5, n5, c5, o6, n6, c6, rfl, rfl⟩ := hv_slices hC
  clear hA hB hC
  simp only [vv]
  go_enter Tryz.func3, Tryz.ntmps3
  go_wp2_with fail
  have a3 := ((bx_new HA.out 26).onto (valloc_bel (Below.refl _ _) (.cells #[.int .i64 B.kd, .int .i64 B.nm, .string B.st, .slice o3 n3 c3, .slice o4 n4 c4] 26))).onto (valloc_bel (Below.refl _ _) (.cells #[.int .i64 C.kd, .int .i64 C.nm, .string C.st, .slice o5 n5 c5, .slice o6 n6 c6] 26))
  have a4 := (bx_new (HB.out.onto (valloc_bel (Below.refl _ _) (.cells #[.int .i64 A.kd, .int .i64 A.nm, .string A.st, .slice o1 n1 c1, .slice o2 n2 c2] 26))) 26).onto (valloc_bel (Below.refl _ _) (.cells #[.int .i64 C.kd, .int .i64 C.nm, .string C.st, .slice o5 n5 c5, .slice o6 n6 c6] 26))
  have a5 := bx_new ((HC.out.onto (valloc_bel (Below.refl _ _) (.cells #[.int .i64 A.kd, .int .i64 A.nm, .string A.st, .slice o1 n1 c1, .slice o2 n2 c2] 26))).onto (valloc_bel (Below.refl _ _) (.cells #[.int .i64 B.kd, .int .i64 B.nm, .string B.st, .slice o3 n3 c3, .slice o4 n4 c4] 26))) 26
  rw [World.size_alloc] at a4
  rw [World.size_alloc, World.size_alloc] at a5
  have aw : Below w.heap.size w _ := valloc_bel (valloc_bel (valloc_bel (Below.refl _ _) (.cells #[.int .i64 A.kd, .int .i64 A.nm, .string A.st, .slice o1 n1 c1, .slice o2 n2 c2] 26)) (.cells #[.int .i64 B.kd, .int .i64 B.nm, .string B.st, .slice o3 n3 c3, .slice o4 n4 c4] 26)) (.cells #[.int .i64 C.kd, .int .i64 C.nm, .string C.st, .slice o5 n5 c5, .slice o6 n6 c6] 26)
  clear HA HB HC
  generalize ((w.alloc (.cells #[.int .i64 A.kd, .int .i64 A.nm, .string A.st, .slice o1 n1 c1, .slice o2 n2 c2] 26)).alloc (.cells #[.int .i64 B.kd, .int .i64 B.nm, .string B.st, .slice o3 n3 c3, .slice o4 n4 c4] 26)).alloc (.cells #[.int .i64 C.kd, .int .i64 C.nm, .string C.st, .slice o5 n5 c5, .slice o6 n6 c6] 26) = V0 at a3 a4 a5 aw ⊢
  go_at_call 4
  refine (HAW.out _ (HG.out.on aw)).mono ?_
  rintro e wa ⟨rfl, hba⟩
  have B3 := hid (a3.onto hba)
  have B4 := hid (a4.onto hba)
  have B5 := hid (a5.onto hba)
  have HW := hid (vonto aw hba)
  clear a3 a4 a5 aw hba HAW HG
  obtain ⟨q0, q1, q2, q3, q4⟩ := B3.out.cells
  have HH1 := hid (heavy_any A _ _ 150 40 wa B3.out.2 (by omega) (by omega))
  simp only [vv] at HH1
  cases hf : fitB A 40 150 with
  | false =>
    rw [hf] at HH1
    simp only [Bool.not_false] at HH1
    go_wp2_with (go_at_call 5; go_must (refine HH1.out.mono ?_; rintro e w1 ⟨rfl, hb1⟩))
    go_ret
    exact ⟨rfl, vonto HW.out hb1⟩
  | true =>
  rw [hf] at HH1
  simp only [Bool.not_true] at HH1
  go_wp2_with fail
  go_at_call 5
  refine HH1.out.mono ?_
  rintro e w1 ⟨rfl, hb1⟩
  have C3 := hid (B3.out.onto hb1)
  have C4 := hid (B4.out.onto hb1)
  have C5 := hid (B5.out.onto hb1)
  have HW1 := hid (vonto HW.out hb1)
  clear q0 q1 q2 q3 q4 HH1 B3 B4 B5 HW hb1
  obtain ⟨q0, q1, q2, q3, q4⟩ := C4.out.cells
  have HH2 := hid (heavy_any B _ _ 150 40 w1 C4.out.2 (by omega) (by omega))
  simp only [vv] at HH2
  cases hf2 : fitB B 40 150 with
  | false =>
    rw [hf2] at HH2
    simp only [Bool.not_false] at HH2
    go_wp2_with (go_at_call 5; go_must (refine HH2.out.mono ?_; rintro e w2 ⟨rfl, hb2⟩))
    go_ret
    exact ⟨rfl, vonto HW1.out hb2⟩
  | true =>
  rw [hf2] at HH2
  simp only [Bool.not_true] at HH2
  go_wp2_with fail
  go_at_call 5
  refine HH2.out.mono ?_
  rintro e w2 ⟨rfl, hb2⟩
  have D3 := hid (C3.out.onto hb2)
  have D4 := hid (C4.out.onto hb2)
  have D5 := hid (C5.out.onto hb2)
  have HW2 := hid (vonto HW1.out hb2)
  clear q0 q1 q2 q3 q4 HH2 C3 C4 C5 HW1 hb2
  obtain ⟨q0, q1, q2, q3, q4⟩ := D5.out.cells
  have HH3 := hid (heavy_any C _ _ 150 40 w2 D5.out.2 (by omega) (by omega))
  simp only [vv] at HH3
  cases hf3 : fitB C 40 150 with
  | false =>
    rw [hf3] at HH3
    simp only [Bool.not_false] at HH3
    go_wp2_with (go_at_call 5; go_must (refine HH3.out.mono ?_; rintro e w3 ⟨rfl, hb3⟩))
    go_ret
    exact ⟨rfl, vonto HW2.out hb3⟩
  | true =>
  rw [hf3] at HH3
  simp only [Bool.not_true] at HH3
  go_wp2_with fail
  go_at_call 5
  refine HH3.out.mono ?_
  rintro e V ⟨rfl, hb3⟩
  have E3 := hid (D3.out.onto hb3)
  have E4 := hid (D4.out.onto hb3)
  have E5 := hid (D5.out.onto hb3)
  have EW := hid (vonto HW2.out hb3)
  clear q0 q1 q2 q3 q4 HH3 D3 D4 D5 HW2 hb3 hf hf2 hf3
  go_wp2_with fail
  have hinh := abv_some V
  obtain ⟨p30, p31, p32, p33, p34⟩ := E3.out.cells
  obtain ⟨p40, p41, p42, p43, p44⟩ := E4.out.cells
  obtain ⟨p50, p51, p52, p53, p54⟩ := E5.out.cells
  have c30 := above_cell p30; have c31 := above_cell p31; have c32 := above_cell p32; have c33 := above_cell p33; have c34 := above_cell p34
  have c40 := above_cell p40; have c41 := above_cell p41; have c42 := above_cell p42; have c43 := above_cell p43; have c44 := above_cell p44
  have c50 := above_cell p50; have c51 := above_cell p51; have c52 := above_cell p52; have c53 := above_cell p53; have c54 := above_cell p54
  clear p30 p31 p32 p33 p34 p40 p41 p42 p43 p44 p50 p51 p52 p53 p54
  have s34 := hid (fun X : Abv V => vsame_any A B _ _ _ _ X.u (E3.out.2.onto X.h) (E4.out.2.onto X.h))
  have s43 := hid (fun X : Abv V => vsame_any B A _ _ _ _ X.u (E4.out.2.onto X.h) (E3.out.2.onto X.h))
  have s33 := hid (fun X : Abv V => vsame_any A A _ _ _ _ X.u (E3.out.2.onto X.h) (E3.out.2.onto X.h))
  have e34 := hid (fun X : Abv V => vequal_any A B _ _ _ _ X.u (E3.out.2.onto X.h) (E4.out.2.onto X.h))
  have e43 := hid (fun X : Abv V => vequal_any B A _ _ _ _ X.u (E4.out.2.onto X.h) (E3.out.2.onto X.h))
  have e45 := hid (fun X : Abv V => vequal_any B C _ _ _ _ X.u (E4.out.2.onto X.h) (E5.out.2.onto X.h))
  have e35 := hid (fun X : Abv V => vequal_any A C _ _ _ _ X.u (E3.out.2.onto X.h) (E5.out.2.onto X.h))
  rw [like_both false B A] at s43
  rw [like_both true B A] at e43
  rw [like_self] at s33
  simp only [vv] at s34 s43 s33 e34 e43 e45 e35
  have hw1 := like_weak A B
  have hw2 := like_on true A B C
  generalize sameT false A B = m1 at s34 s43 hw1
  generalize sameT true A B = m2 at e34 e43 hw1 hw2
  generalize sameT true B C = m3 at e45 hw2
  generalize sameT true A C = m4 at e35 hw2
  have hc : (m1 = true ∧ m2 = true ∧ m3 = true ∧ m4 = true) ∨ (m1 = true ∧ m2 = true ∧ m3 = false) ∨ (m1 = false ∧ m2 = true ∧ m3 = true ∧ m4 = true) ∨ (m1 = false ∧ m2 = true ∧ m3 = false) ∨ (m1 = false ∧ m2 = false) := by
    revert hw1 hw2
    cases m1 <;> cases m2 <;> cases m3 <;> cases m4 <;> simp
  clear hw1 hw2 E3 E4 E5
  rcases hc with ⟨rfl, rfl, rfl, rfl⟩ | ⟨rfl, rfl, rfl⟩ | ⟨rfl, rfl, rfl, rfl⟩ | ⟨rfl, rfl, rfl⟩ | ⟨rfl, rfl⟩
  all_goals
    as_aux_lemma =>
    refine wp_region_above (by kernel_rfl) (by kernel_rfl) ?_
    repeat (go_big_quiet_step ((first
      | (go_at_call 6; first
        | with_reducible exact above_of (s34.out _)
        | with_reducible exact above_of (s43.out _)
        | with_reducible exact above_of (s33.out _))
      | (go_at_call 7; first
        | with_reducible exact above_of (e34.out _)
        | with_reducible exact above_of (e43.out _)
        | with_reducible exact above_of (e45.out _)
        | with_reducible exact above_of (e35.out _)))))
    refine wpQuiet_nil ?_
    intro _ hw'
    obtain ⟨X, hX⟩ := hw'
    subst hX
    go_wp2_with fail
    go_ret
    exact ⟨rfl, vonto EW.out X.h⟩
end Go.Proofs.YtnpojefcibfgkabGreatDoor
