/- jlex.Cut: whole. -/
import Derived.Test.YtoamndiblckdlaaGreatDoorJxI
namespace Go.Proofs.YtoamndiblckdlaaGreatDoor
open Go.RowKit

theorem vlk_in (l : List UInt8) : pos l (vlk l) ≤ l.length := by
  obtain ⟨-, h2, -, -⟩ := least_has (vgo l) l.length 0 (by
    unfold vgo; rw [decide_eq_false (by have := pos_ge l (0 + l.length); omega)]; rfl)
  have e : vlk l = least (vgo l) l.length 0 := rfl
  rw [← e] at h2
  cases hk : vlk l with
  | zero => exact Nat.zero_le _
  | succ k =>
    have h3 := h2 k (Nat.zero_le _) (by omega)
    unfold vgo at h3
    rw [Bool.and_eq_true] at h3
    exact pos_next l k (of_decide_eq_true h3.1)
set_option maxRecDepth 100000 in
set_option maxHeartbeats 2000000 in
theorem Tryz.jcut_any (t : ByteArray) (w : World) (ht : t.size ≤ 1000000) (hg : GlobU w) :
    Calls Tryz.prog 9 #[.string t] w (Tryz.JPost w t) := by
  have HZ := hid (size_list t)
  have CF := hid (fun a e X => fault_any t a e X ht)
  by_cases h1 : t.size ≤ 65536
  · by_cases hv : pos t.data.toList (vlk t.data.toList) = t.size
    · exact Tryz.jcut_in t w h1 hv hg
    · have hp : pos t.data.toList (vlk t.data.toList) < t.size := by
        have := vlk_in t.data.toList
        rw [HZ.out] at this; omega
      have CV := hid (fun X => letters_any t X)
      have HE := hid (show cutA t.data.toList = ([], 3, pos t.data.toList (vlk t.data.toList)) by
        unfold cutA; rw [if_neg (by rw [HZ.out]; omega), rv_no _ (by rw [HZ.out]; exact hv), if_pos (by omega), Int.toNat_natCast])
      unfold Tryz.JPost
      rw [HE.out]
      obtain ⟨p, hpp⟩ : ∃ p, pos t.data.toList (vlk t.data.toList) = p := ⟨_, rfl⟩
      rw [hpp] at CV hp ⊢
      clear hpp hv HE
      have C := hid (fun X => CF.out (p : Int) 3 X)
      unfold faultV at C
      have HV : Hid (faultV t (p : Nat) ((3 : Nat) : Int) = .agg #[.int .i64 3, .int .i64 (clN t.size (p : Nat)), .int .i64 (ofL t (p : Nat)), .int .i64 (ofC t (p : Nat))]) := rfl
      obtain ⟨f1, e1⟩ : ∃ f1, clN t.size (p : Nat) = f1 := ⟨_, rfl⟩
      obtain ⟨f2, e2⟩ : ∃ f2, ofL t (p : Nat) = f2 := ⟨_, rfl⟩
      obtain ⟨f3, e3⟩ : ∃ f3, ofC t (p : Nat) = f3 := ⟨_, rfl⟩
      rw [e1, e2, e3] at C HV
      clear e1 e2 e3 CF
      go_enter Tryz.func9, Tryz.ntmps9
      go_wp2_with fail
      go_at_call 14
      refine (CV.out _).mono ?_
      rintro e w1 ⟨rfl, hb1⟩
      have HB1 : Hid (Below (Tryz.jbW w).heap.size (Tryz.jbW w) w1) := hb1
      clear hb1
      go_wp2_with fail
      go_at_call 13
      refine (C.out _).mono ?_
      rintro e w2 ⟨rfl, hb2⟩
      have HB2 := hid (Tryz.jb_onto HB1.out hb2)
      clear hb2
      obtain ⟨b0, b1, b2, b3, b4, b5⟩ := Tryz.jb_keeps HB2.out
      go_wp2_with fail
      refine bodyPost_ret (v := .tuple #[.slice none 0 0, .agg #[.int .i64 3, .int .i64 f1, .int .i64 f2, .int .i64 f3]]) (by simp [results, Tryz.results9, go_sem, b0, b1, b2, b3]) rfl ?_
      exact jbad rfl (by decide) HV.out (set4 (Tryz.jb_low HB2.out) (Nat.le_refl _))
  · have HE := hid (show cutA t.data.toList = ([], 2, t.size) by unfold cutA; rw [if_pos (by rw [HZ.out]; omega), HZ.out])
    unfold Tryz.JPost
    rw [HE.out]
    clear HE
    have C := hid (fun X => CF.out (t.size : Int) 2 X)
    unfold faultV at C
    have HV : Hid (faultV t (t.size : Nat) ((2 : Nat) : Int) = .agg #[.int .i64 2, .int .i64 (clN t.size (t.size : Nat)), .int .i64 (ofL t (t.size : Nat)), .int .i64 (ofC t (t.size : Nat))]) := rfl
    obtain ⟨f1, e1⟩ : ∃ f1, clN t.size (t.size : Nat) = f1 := ⟨_, rfl⟩
    obtain ⟨f2, e2⟩ : ∃ f2, ofL t (t.size : Nat) = f2 := ⟨_, rfl⟩
    obtain ⟨f3, e3⟩ : ∃ f3, ofC t (t.size : Nat) = f3 := ⟨_, rfl⟩
    rw [e1, e2, e3] at C HV
    clear e1 e2 e3 CF
    have h1' : 65536 < t.size := by omega
    go_enter Tryz.func9, Tryz.ntmps9
    go_wp2_with fail
    go_at_call 13
    refine (C.out _).mono ?_
    rintro e w2 ⟨rfl, hb2⟩
    have HB2 : Hid (Below (Tryz.jbW w).heap.size (Tryz.jbW w) w2) := hb2
    clear hb2
    obtain ⟨b0, b1, b2, b3, b4, b5⟩ := Tryz.jb_keeps HB2.out
    go_wp2_with fail
    refine bodyPost_ret (v := .tuple #[.slice none 0 0, .agg #[.int .i64 2, .int .i64 f1, .int .i64 f2, .int .i64 f3]]) (by simp [results, Tryz.results9, go_sem, b0, b1, b2, b3]) rfl ?_
    exact jbad rfl (by decide) HV.out (set4 (Tryz.jb_low HB2.out) (Nat.le_refl _))
theorem Tryz.jhas : Tryz.JHas := fun t w ht hg => Tryz.jcut_any t w ht hg
end Go.Proofs.YtoamndiblckdlaaGreatDoor
