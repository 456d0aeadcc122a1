import Derived.Test.YtjbccmnmcjmooaaDoorCrD
import Derived.Test.YtjbccmnmcjmooaaDoorShelf3
import Derived.Test.YtjbccmnmcjmooaaDoorMathCp
import Derived.Test.YtjbccmnmcjmooaaDoorGlobU
/- What cprint asks of the library; cprint.Field. -/
namespace Go.Proofs.YtjbccmnmcjmooaaDoor
open Go.RowKit

theorem papp (a b : ByteArray) : (a ++ b).data.toList = a.data.toList ++ b.data.toList := by simp
/-- what cprint's calls of the library ask of the package variables -/
structure GlobC (w : World) : Prop where
  len : ∃ m : Int, w.cell? ⟨2, 0, none⟩ = some (.int .i64 m)
  tabs : GlobU w
theorem GlobC.on {w w' : World} (h : GlobC w) (hb : Below w.heap.size w w') : GlobC w' := ⟨h.len.imp fun _ hm => keepCell hb hm, h.tabs.on hb⟩
set_option maxRecDepth 100000 in
set_option maxHeartbeats 400000 in
theorem pcont_any (s : ByteArray) (w : World) (hs : s.size ≤ 1000000) :
    Calls Tryd.prog 22 #[.string s, .string ⟨#[34, 44, 13, 10]⟩] w fun e w' => e = .returned (.bool (s.data.toList.any stopB)) ∧ Below w.heap.size w w' := by
  have C := hid (fun X => ixany_any ⟨#[34, 44, 13, 10]⟩ s X rfl (by decide) hs)
  have HR := hid (any_stop s.data.toList)
  unfold Lib.containsAny at HR
  go_enter Tryd.func22, Tryd.ntmps22
  go_wp2_with (go_at_call 33; go_must (refine (C.out _).mono ?_; rintro e w1 ⟨rfl, hb⟩))
  go_ret
  exact ⟨by rw [← HR.out]; rfl, hb⟩
theorem prepl_any (s : ByteArray) (w : World) (hg : GlobC w) (hs : s.size ≤ 1000000) :
    Calls Tryd.prog 23 #[.string s, .string ⟨#[34]⟩, .string ⟨#[34, 34]⟩] w fun e w' => e = .returned (.string (mkS (dq s.data.toList))) ∧ Below w.heap.size w w' := by
  obtain ⟨m, hm⟩ := hg.len
  have hc := Lib.countB_le ⟨#[34]⟩ (by decide) s.size s (Nat.le_refl _)
  have hb : Lib.countB s ⟨#[34]⟩ * (⟨#[34, 34]⟩ : ByteArray).size ≤ 2000000 := Nat.le_trans (Nat.mul_le_mul hc (Nat.le_refl 2)) (by omega)
  have := Tryd.strings_ReplaceAll s ⟨#[34]⟩ ⟨#[34, 34]⟩ m w (by omega) hm (by decide) (by omega)
  rw [ra_of (by decide)] at this
  rw [show rA (⟨#[34]⟩ : ByteArray).data.toList (⟨#[34, 34]⟩ : ByteArray).data.toList s.data.toList = dq s.data.toList from ra_dq _] at this
  exact this
set_option maxRecDepth 100000 in
set_option maxHeartbeats 1000000 in
theorem pfield_any (s : ByteArray) (al : Bool) (w : World) (hg : GlobC w) (hs : s.size ≤ 1000000) :
    Calls Tryd.prog 10 #[.string s, .bool al] w fun e w' => e = .returned (.string (mkS (fldB s.data.toList al))) ∧ Below w.heap.size w w' := by
  have CC := hid (fun X => pcont_any s X hs)
  have CR := hid (fun X (h : Below w.heap.size w X) => prepl_any s X (hg.on h) hs)
  have CL := hid (fun X => cclone_any s X hs)
  obtain ⟨m, hm⟩ : ∃ m, mkS (dq s.data.toList) = m := ⟨_, rfl⟩
  rw [hm] at CR
  have HQ := hid (show (s.data.toList.any stopB || (s.data.toList.isEmpty && al)) = true → (⟨#[34]⟩ : ByteArray) ++ m ++ ⟨#[34]⟩ = mkS (fldB s.data.toList al) from fun h => by
    unfold fldB
    rw [if_pos h, ← hm]
    exact mkS_of _ _ (by simp only [papp, mkS_list]; rfl))
  have HP := hid (show (s.data.toList.any stopB || (s.data.toList.isEmpty && al)) = false → s = mkS (fldB s.data.toList al) from fun h => by
    unfold fldB
    rw [if_neg (by rw [h]; decide)]
    exact mkS_of _ _ rfl)
  have hmz : m.size ≤ 2000000 := by rw [← hm, mkS_size]; have := dq_len s.data.toList; rw [size_list] at this; omega
  generalize mkS (fldB s.data.toList al) = r at *
  clear hm hg hs
  have hemp : s.data.toList.isEmpty = decide (s.size = 0) := by
    rw [Bool.eq_iff_iff, List.isEmpty_iff, decide_eq_true_iff, ← size_list]
    exact List.length_eq_zero_iff.symm
  generalize hq : s.data.toList.any stopB = q at *
  cases q with
  | true =>
    have HQ := hid (HQ.out rfl)
    clear HP CL hemp hq
    go_enter Tryd.func10, Tryd.ntmps10
    go_wp2_with fail
    go_at_call 22
    refine (CC.out _).mono ?_
    rintro e w1 ⟨rfl, hb1⟩
    have C2 := hid (CR.out w1 hb1)
    have HB1 := hid hb1
    clear hb1 CR CC
    go_wp2_with fail
    go_at_call 23
    refine C2.out.mono ?_
    rintro e w2 ⟨rfl, hb2⟩
    have HB2 := hid (vonto HB1.out hb2)
    clear hb2 C2
    go_wp2_with fail
    go_ret
    exact ⟨by rw [HQ.out]; rfl, HB2.out⟩
  | false =>
    by_cases hz : s.size = 0
    · have hs0 : s = ⟨#[]⟩ := by
        have : s.data.toList = [] := List.eq_nil_of_length_eq_zero (by rw [size_list]; exact hz)
        rw [mkS_of s _ rfl, this]; rfl
      cases al with
      | true =>
        have HQ2 := hid (HQ.out (by rw [hemp]; simp [hz]))
        clear HQ HP CL hemp hq
        subst hs0
        go_enter Tryd.func10, Tryd.ntmps10
        go_wp2_with fail
        go_at_call 22
        refine (CC.out _).mono ?_
        rintro e w1 ⟨rfl, hb1⟩
        have C2 := hid (CR.out w1 hb1)
        have HB1 := hid hb1
        clear hb1 CR CC
        go_wp2_with fail
        go_at_call 23
        refine C2.out.mono ?_
        rintro e w2 ⟨rfl, hb2⟩
        have HB2 := hid (vonto HB1.out hb2)
        clear hb2 C2
        go_wp2_with fail
        go_ret
        exact ⟨by rw [HQ2.out]; rfl, HB2.out⟩
      | false =>
        have HP2 := hid (HP.out (by simp))
        clear HP HQ CR hemp hq
        subst hs0
        go_enter Tryd.func10, Tryd.ntmps10
        go_wp2_with fail
        go_at_call 22
        refine (CC.out _).mono ?_
        rintro e w1 ⟨rfl, hb1⟩
        have HB1 := hid hb1
        clear hb1 CC
        go_wp2_with fail
        go_at_call 24
        refine (CL.out _).mono ?_
        rintro e w2 ⟨rfl, hb2⟩
        have HB2 := hid (vonto HB1.out hb2)
        clear hb2 CL
        go_wp2_with fail
        go_ret
        exact ⟨by rw [← HP2.out]; rfl, HB2.out⟩
    · have HP := hid (HP.out (by rw [hemp]; simp [hz]))
      have hne : ¬ s.data.toList = [] := fun hc => by have := congrArg List.length hc; rw [size_list] at this; exact hz (by simpa using this)
      have hn0 : ¬ s.toList = [] := by rw [Lib.toList_data]; exact hne
      have hem : s.toList.isEmpty = false := by rw [Lib.toList_data, List.isEmpty_eq_false_iff]; exact hne
      clear HQ CR hemp hq hne
      go_enter Tryd.func10, Tryd.ntmps10
      go_wp2_with fail
      go_at_call 22
      refine (CC.out _).mono ?_
      rintro e w1 ⟨rfl, hb1⟩
      have HB1 := hid hb1
      clear hb1 CC
      go_wp2_with fail
      go_at_call 24
      refine (CL.out _).mono ?_
      rintro e w2 ⟨rfl, hb2⟩
      have HB2 := hid (vonto HB1.out hb2)
      clear hb2 CL
      go_wp2_with fail
      go_ret
      exact ⟨by rw [← HP.out]; rfl, HB2.out⟩
end Go.Proofs.YtjbccmnmcjmooaaDoor
