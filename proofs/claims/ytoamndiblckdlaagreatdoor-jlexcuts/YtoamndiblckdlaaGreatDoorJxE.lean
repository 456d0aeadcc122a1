/- jlex.withoutPower, numberError: walked. -/
import Derived.Test.YtoamndiblckdlaaGreatDoorJxD
import Derived.Test.YtoamndiblckdlaaGreatDoorMathLexN
import Derived.Test.YtoamndiblckdlaaGreatDoorShelf3
import Derived.Test.YtoamndiblckdlaaGreatDoorDecOne
import Derived.Test.YtoamndiblckdlaaGreatDoorGlobU
namespace Go.Proofs.YtoamndiblckdlaaGreatDoor
open Go.RowKit

theorem enc_asc (n : Nat) (h : n < 128) : Lib.encodeRune (n : Int) = [UInt8.ofNat n] := by
  unfold Lib.encodeRune
  rw [Lib.encodeRuneZ_one (by omega) (by omega)]
  simp
theorem map_zd : ∀ l : List UInt8, (∀ b ∈ l, b.toNat < 128) → Lib.mapD nouI l = l.map zd
  | [], _ => rfl
  | b :: l, h => by
    have hb := h b (by simp)
    have hd : Lib.decodeL (b :: l) = (b.toNat, 1) := by
      rw [Lib.decodeL_N]; unfold Lib.decodeN
      rw [List.getD_cons_zero, if_pos hb]
    rw [Lib.mapD_step nouI (b :: l) (by simp), hd, List.map_cons]
    simp only [List.drop_one, List.tail_cons]
    rw [map_zd l (fun x hx => h x (by simp [hx]))]
    have e : (if 0 ≤ nouI (b.toNat : Int) then Lib.encodeRune (nouI (b.toNat : Int)) else []) = [zd b] := by
      unfold nouI zd
      by_cases h1 : 48 ≤ b.toNat ∧ b.toNat ≤ 57
      · have h2 : isD b = true := by unfold isD; simp; omega
        rw [if_pos (show 48 ≤ (b.toNat : Int) ∧ (b.toNat : Int) ≤ 57 by omega), if_pos h2]
        rfl
      · have h2 : isD b = false := by
          unfold isD
          rw [Bool.and_eq_false_iff]
          simp only [decide_eq_false_iff_not]
          omega
        rw [if_neg (show ¬ (48 ≤ (b.toNat : Int) ∧ (b.toNat : Int) ≤ 57) by omega), h2, if_pos (by omega), enc_asc _ hb]
        simp
    rw [e]; rfl
theorem Tryz.nought_grows (w : World) : MapGrows Tryz.prog 78 #[] nouI w := fun W x hx _ => nought_any x W hx
theorem map_any (s : ByteArray) (w : World) (hs : s.size ≤ 1000) (ha : ∀ b ∈ s.data.toList, b.toNat < 128) (hg : GlobU w) :
    Calls Tryz.prog 77 #[.func (.func 78) #[] #[], .string s] w fun e w' => e = .returned (.string (mkS (s.data.toList.map zd))) ∧ Below w.heap.size w w' := by
  have := Tryz.strings_Map_grows 78 #[] (enters_of Tryz.func78 (by kernel_rfl) rfl) nouI s w (by omega) (Tryz.nought_grows w) (fun x hx => by unfold nouI; split <;> omega) hg
  rw [map_zd _ ha] at this
  exact this
theorem ascii_at {s : ByteArray} (ha : ∀ b ∈ s.data.toList, b.toNat < 128) (j : Nat) (b : UInt8) (h : s.data.toList[j]? = some b) : b.toNat < 128 := ha b (List.mem_of_getElem? h)
set_option maxRecDepth 100000 in
set_option maxHeartbeats 1000000 in
theorem wpow_any (s : ByteArray) (w : World) (hs : s.size ≤ 1000) (ha : ∀ b ∈ s.data.toList, b.toNat < 128) (hg : GlobU w) :
    Calls Tryz.prog 63 #[.string s] w fun e w' => e = .returned (.string (mkS (wpow s.data.toList))) ∧ Below w.heap.size w w' := by
  have C := hid (fun X => Tryz.strings_IndexAny_laid s ⟨#[101, 69]⟩ X (by omega) (by decide) (ascii_at ha) (ascii_at (by decide)))
  have e2 : (⟨#[101, 69]⟩ : ByteArray).data.toList = [101, 69] := rfl
  rw [e2] at C
  clear e2
  have HG := hid hg
  rcases ix_e s.data.toList with ⟨h1, h2⟩ | ⟨h1, h2⟩
  · have HE := hid (show s = mkS (wpow s.data.toList) from mkS_of _ _ (by
      unfold wpow
      have : s.data.toList.dropWhile notE = [] := by
        have e := List.takeWhile_append_dropWhile (p := notE) (l := s.data.toList)
        have e2 := congrArg List.length e
        rw [List.length_append, h2] at e2
        exact List.eq_nil_of_length_eq_zero (by omega)
      rw [this, h2, List.map_nil, List.append_nil]))
    rw [h1] at C
    clear h1 h2
    go_enter Tryz.func63, Tryz.ntmps63
    go_wp2_with (go_at_call 76; go_must (refine (C.out _).mono ?_; rintro e w1 ⟨rfl, hb⟩))
    go_ret
    exact ⟨ret_str HE.out, hb⟩
  · rw [h1] at C
    have hk : (s.data.toList.takeWhile notE).length < s.size := by rw [← size_list s]; exact h2
    have HE := hid (show s.extract 0 (s.data.toList.takeWhile notE).length ++ mkS ((s.extract (s.data.toList.takeWhile notE).length s.size).data.toList.map zd) = mkS (wpow s.data.toList) from mkS_of _ _ (by
      have e := List.takeWhile_append_dropWhile (p := notE) (l := s.data.toList)
      rw [ByteArray.data_append, Array.toList_append, mkS_list, take_list, drop_list]
      unfold wpow
      congr 1
      · exact ((List.prefix_iff_eq_take.1 (List.takeWhile_prefix notE))).symm
      · congr 1
        have e3 : (s.data.toList.takeWhile notE ++ s.data.toList.dropWhile notE).drop (s.data.toList.takeWhile notE).length = s.data.toList.dropWhile notE := List.drop_left
        rw [e] at e3; exact e3))
    have CM := hid (fun X h => map_any (s.extract (s.data.toList.takeWhile notE).length s.size) X (by simp; omega) (fun b hb => ha b (mem_extract hb)) h)
    obtain ⟨k, hkk⟩ : ∃ k, (s.data.toList.takeWhile notE).length = k := ⟨_, rfl⟩
    rw [hkk] at C HE CM hk
    clear h1 h2 hkk ha
    obtain ⟨M, hM⟩ : ∃ M, mkS ((s.extract k s.size).data.toList.map zd) = M := ⟨_, rfl⟩
    have hMs : M.size ≤ 1000 := by rw [← hM, mkS_size, List.length_map, size_list]; simp; omega
    rw [hM] at HE CM
    clear hM
    go_enter Tryz.func63, Tryz.ntmps63
    go_wp2_with (go_at_call 76; go_must (refine (C.out _).mono ?_; rintro e w1 ⟨rfl, hb⟩))
    have CM2 := hid (fun n => CM.out (w1.drewN n) ((HG.out.on hb).on (below_drewN (Below.refl _ _) n)))
    go_region_with ((go_at_call 77; refine (CM2.out _).mono ?_; rintro e w2 ⟨rfl, hb2⟩))
    all_goals
      go_wp2_with fail
      go_ret
      exact ⟨ret_str HE.out, onto hb (onto (below_drewN (Below.refl _ _) _) hb2)⟩
/-- why a row is no number -/
def neI (l : List UInt8) : Int := if 400 < l.length then 2 else if numB l = true then 0 else if pOk l = true then 6 else 4
set_option maxRecDepth 100000 in
set_option maxHeartbeats 1000000 in
theorem nerr_any (s : ByteArray) (w : World) (hs : s.size ≤ 1000000) (ha : ∀ b ∈ s.data.toList, b.toNat < 128) (hg : GlobU w) :
    Calls Tryz.prog 47 #[.string s] w fun e w' => e = .returned (.int .i64 (neI s.data.toList)) ∧ Below w.heap.size w w' := by
  have HG := hid hg
  have HZ := hid (size_list s)
  by_cases h4 : 400 < s.size
  · have HE := hid (show neI s.data.toList = 2 by unfold neI; rw [if_pos (by rw [HZ.out]; exact h4)])
    go_enter Tryz.func47, Tryz.ntmps47
    go_wp2_with fail
    go_ret
    exact ⟨ret_int HE.out.symm, Below.refl _ _⟩
  · have CD := hid (fun X => dgood_max s X (max_le hs))
    have CW := hid (fun X h => wpow_any s X (by omega) ha h)
    have CE := hid (fun X => dgood_max (mkS (wpow s.data.toList)) X (max_le (by rw [mkS_size, wpow_len, size_list]; exact hs)))
    have e := wp_num s.data.toList (by rw [size_list]; omega)
    rw [mkS_list, e] at CE
    have HN := hid (show neI s.data.toList = if numB s.data.toList = true then 0 else if pOk s.data.toList = true then 6 else 4 by unfold neI; rw [if_neg (by rw [HZ.out]; exact h4)])
    rw [HN.out]
    clear HN e ha
    obtain ⟨M, hM⟩ : ∃ M, mkS (wpow s.data.toList) = M := ⟨_, rfl⟩
    rw [hM] at CW CE
    clear hM
    obtain ⟨n, hn⟩ : ∃ n, numB s.data.toList = n := ⟨_, rfl⟩
    rw [hn] at CD ⊢
    clear hn
    obtain ⟨p, hp⟩ : ∃ p, pOk s.data.toList = p := ⟨_, rfl⟩
    rw [hp] at CE ⊢
    clear hp
    cases n with
    | true =>
      go_enter Tryz.func47, Tryz.ntmps47
      go_wp2_with (go_at_call 62; go_must (refine (CD.out _).mono ?_; rintro e w1 ⟨rfl, hb⟩))
      go_ret
      exact ⟨rfl, hb⟩
    | false =>
      cases p with
      | true =>
        go_enter Tryz.func47, Tryz.ntmps47
        go_wp2_with fail
        go_at_call 62
        refine (CD.out _).mono ?_
        rintro e w1 ⟨rfl, hb⟩
        go_wp2_with fail
        go_at_call 63
        refine (CW.out _ (HG.out.on hb)).mono ?_
        rintro e w2 ⟨rfl, hb2⟩
        go_wp2_with fail
        go_at_call 62
        refine (CE.out _).mono ?_
        rintro e w3 ⟨rfl, hb3⟩
        go_wp2_with fail
        go_ret
        exact ⟨rfl, onto (onto hb hb2) hb3⟩
      | false =>
        go_enter Tryz.func47, Tryz.ntmps47
        go_wp2_with fail
        go_at_call 62
        refine (CD.out _).mono ?_
        rintro e w1 ⟨rfl, hb⟩
        go_wp2_with fail
        go_at_call 63
        refine (CW.out _ (HG.out.on hb)).mono ?_
        rintro e w2 ⟨rfl, hb2⟩
        go_wp2_with fail
        go_at_call 62
        refine (CE.out _).mono ?_
        rintro e w3 ⟨rfl, hb3⟩
        go_wp2_with fail
        go_ret
        exact ⟨rfl, onto (onto hb hb2) hb3⟩
end Go.Proofs.YtoamndiblckdlaaGreatDoor
