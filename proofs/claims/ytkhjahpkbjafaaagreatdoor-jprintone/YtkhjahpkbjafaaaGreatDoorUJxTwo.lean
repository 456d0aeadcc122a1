
import Derived.Test.YtkhjahpkbjafaaaGreatDoorUJxOne
import Derived.Test.YtkhjahpkbjafaaaGreatDoorUMathLexM
import Derived.Test.YtkhjahpkbjafaaaGreatDoorUBaseDec
import Derived.Test.YtkhjahpkbjafaaaGreatDoorUDecOne
import Derived.Test.YtkhjahpkbjafaaaGreatDoorUEscDoc
import Derived.Test.YtkhjahpkbjafaaaGreatDoorUEscSide
import Derived.Test.YtkhjahpkbjafaaaGreatDoorULexTail
/- jlex.withoutPower, numberError: walked. -/
/- jlex.takeString, takeName, takeNumber, take: walked. -/
/- jlex.takeName, takeNumber, take: walked. -/
/- jlex.take: walked. -/
/- jlex.Cut: walked. -/
/- jlex.Cut: whole. -/
namespace Go.Proofs.YtkhjahpkbjafaaaGreatDoor
open Go.RowKit

theorem enc_asc (n : Nat) (h : n < 128) : Lib.encodeRune (n : Int) = [UInt8.ofNat n] := by
  unfold Lib.encodeRune
  rw [Lib.encodeRuneZ_one (by omega) (by omega)]
  simp
theorem map_zd : ∀ l : List UInt8, (∀ b ∈ l, b.toNat < 128) → Lib.mapD nouI l = l.map zd
  | [], _ => rfl
  | b :: l, h => by
    have hb := h b (by simp)
    have hd : Lib.decodeL (b :: l) = (b.toNat, 1) := by
      rw [Lib.decodeL_N]; unfold Lib.decodeN
      rw [List.getD_cons_zero, if_pos hb]
    rw [Lib.mapD_step nouI (b :: l) (by simp), hd, List.map_cons]
    simp only [List.drop_one, List.tail_cons]
    rw [map_zd l (fun x hx => h x (by simp [hx]))]
    have e : (if 0 ≤ nouI (b.toNat : Int) then Lib.encodeRune (nouI (b.toNat : Int)) else []) = [zd b] := by
      unfold nouI zd
      by_cases h1 : 48 ≤ b.toNat ∧ b.toNat ≤ 57
      · have h2 : isD b = true := by unfold isD; simp; omega
        rw [if_pos (show 48 ≤ (b.toNat : Int) ∧ (b.toNat : Int) ≤ 57 by omega), if_pos h2]
        rfl
      · have h2 : isD b = false := by
          unfold isD
          rw [Bool.and_eq_false_iff]
          simp only [decide_eq_false_iff_not]
          omega
        rw [if_neg (show ¬ (48 ≤ (b.toNat : Int) ∧ (b.toNat : Int) ≤ 57) by omega), h2, if_pos (by omega), enc_asc _ hb]
        simp
    rw [e]; rfl
theorem Tryz.nought_grows (w : World) : MapGrows Tryz.prog 169 #[] nouI w := fun W x hx _ => nought_any x W hx
theorem map_any (s : ByteArray) (w : World) (hs : s.size ≤ 1000) (ha : ∀ b ∈ s.data.toList, b.toNat < 128) (hg : GlobU w) :
    Calls Tryz.prog 168 #[.func (.func 169) #[] #[], .string s] w fun e w' => e = .returned (.string (mkS (s.data.toList.map zd))) ∧ Below w.heap.size w w' := by
  have := Tryz.strings_Map_grows 169 #[] (enters_of Tryz.func169 (by kernel_rfl) rfl) nouI s w (by omega) (Tryz.nought_grows w) (fun x hx => by unfold nouI; split <;> omega) hg
  rw [map_zd _ ha] at this
  exact this
theorem ascii_at {s : ByteArray} (ha : ∀ b ∈ s.data.toList, b.toNat < 128) (j : Nat) (b : UInt8) (h : s.data.toList[j]? = some b) : b.toNat < 128 := ha b (List.mem_of_getElem? h)
set_option maxRecDepth 100000 in
set_option maxHeartbeats 1000000 in
theorem wpow_any (s : ByteArray) (w : World) (hs : s.size ≤ 1000) (ha : ∀ b ∈ s.data.toList, b.toNat < 128) (hg : GlobU w) :
    Calls Tryz.prog 140 #[.string s] w fun e w' => e = .returned (.string (mkS (wpow s.data.toList))) ∧ Below w.heap.size w w' := by
  have C := hid (fun X => Tryz.strings_IndexAny_laid s ⟨#[101, 69]⟩ X (by omega) (by decide) (ascii_at ha) (ascii_at (by decide)))
  have e2 : (⟨#[101, 69]⟩ : ByteArray).data.toList = [101, 69] := rfl
  rw [e2] at C
  clear e2
  have HG := hid hg
  rcases ix_e s.data.toList with ⟨h1, h2⟩ | ⟨h1, h2⟩
  · have HE := hid (show s = mkS (wpow s.data.toList) from mkS_of _ _ (by
      unfold wpow
      have : s.data.toList.dropWhile notE = [] := by
        have e := List.takeWhile_append_dropWhile (p := notE) (l := s.data.toList)
        have e2 := congrArg List.length e
        rw [List.length_append, h2] at e2
        exact List.eq_nil_of_length_eq_zero (by omega)
      rw [this, h2, List.map_nil, List.append_nil]))
    rw [h1] at C
    clear h1 h2
    go_enter Tryz.func140, Tryz.ntmps140
    go_wp2_with (go_at_call 167; go_must (refine (C.out _).mono ?_; rintro e w1 ⟨rfl, hb⟩))
    go_ret
    exact ⟨ret_str HE.out, hb⟩
  · rw [h1] at C
    have hk : (s.data.toList.takeWhile notE).length < s.size := by rw [← size_list s]; exact h2
    have HE := hid (show s.extract 0 (s.data.toList.takeWhile notE).length ++ mkS ((s.extract (s.data.toList.takeWhile notE).length s.size).data.toList.map zd) = mkS (wpow s.data.toList) from mkS_of _ _ (by
      have e := List.takeWhile_append_dropWhile (p := notE) (l := s.data.toList)
      rw [ByteArray.data_append, Array.toList_append, mkS_list, take_list, drop_list]
      unfold wpow
      congr 1
      · exact ((List.prefix_iff_eq_take.1 (List.takeWhile_prefix notE))).symm
      · congr 1
        have e3 : (s.data.toList.takeWhile notE ++ s.data.toList.dropWhile notE).drop (s.data.toList.takeWhile notE).length = s.data.toList.dropWhile notE := List.drop_left
        rw [e] at e3; exact e3))
    have CM := hid (fun X h => map_any (s.extract (s.data.toList.takeWhile notE).length s.size) X (by simp; omega) (fun b hb => ha b (mem_extract hb)) h)
    obtain ⟨k, hkk⟩ : ∃ k, (s.data.toList.takeWhile notE).length = k := ⟨_, rfl⟩
    rw [hkk] at C HE CM hk
    clear h1 h2 hkk ha
    obtain ⟨M, hM⟩ : ∃ M, mkS ((s.extract k s.size).data.toList.map zd) = M := ⟨_, rfl⟩
    have hMs : M.size ≤ 1000 := by rw [← hM, mkS_size, List.length_map, size_list]; simp; omega
    rw [hM] at HE CM
    clear hM
    go_enter Tryz.func140, Tryz.ntmps140
    go_wp2_with (go_at_call 167; go_must (refine (C.out _).mono ?_; rintro e w1 ⟨rfl, hb⟩))
    have CM2 := hid (fun n => CM.out (w1.drewN n) ((HG.out.on hb).on (below_drewN (Below.refl _ _) n)))
    go_region_with ((go_at_call 168; refine (CM2.out _).mono ?_; rintro e w2 ⟨rfl, hb2⟩))
    all_goals
      go_wp2_with fail
      go_ret
      exact ⟨ret_str HE.out, onto hb (onto (below_drewN (Below.refl _ _) _) hb2)⟩
/-- why a row is no number -/
def neI (l : List UInt8) : Int := if 400 < l.length then 2 else if numB l = true then 0 else if pOk l = true then 6 else 4
set_option maxRecDepth 100000 in
set_option maxHeartbeats 1000000 in
theorem nerr_any (s : ByteArray) (w : World) (hs : s.size ≤ 1000000) (ha : ∀ b ∈ s.data.toList, b.toNat < 128) (hg : GlobU w) :
    Calls Tryz.prog 109 #[.string s] w fun e w' => e = .returned (.int .i64 (neI s.data.toList)) ∧ Below w.heap.size w w' := by
  have HG := hid hg
  have HZ := hid (size_list s)
  by_cases h4 : 400 < s.size
  · have HE := hid (show neI s.data.toList = 2 by unfold neI; rw [if_pos (by rw [HZ.out]; exact h4)])
    go_enter Tryz.func109, Tryz.ntmps109
    go_wp2_with fail
    go_ret
    exact ⟨ret_int HE.out.symm, Below.refl _ _⟩
  · have CD := hid (fun X => dgood_max s X (max_le hs))
    have CW := hid (fun X h => wpow_any s X (by omega) ha h)
    have CE := hid (fun X => dgood_max (mkS (wpow s.data.toList)) X (max_le (by rw [mkS_size, wpow_len, size_list]; exact hs)))
    have e := wp_num s.data.toList (by rw [size_list]; omega)
    rw [mkS_list, e] at CE
    have HN := hid (show neI s.data.toList = if numB s.data.toList = true then 0 else if pOk s.data.toList = true then 6 else 4 by unfold neI; rw [if_neg (by rw [HZ.out]; exact h4)])
    rw [HN.out]
    clear HN e ha
    obtain ⟨M, hM⟩ : ∃ M, mkS (wpow s.data.toList) = M := ⟨_, rfl⟩
    rw [hM] at CW CE
    clear hM
    obtain ⟨n, hn⟩ : ∃ n, numB s.data.toList = n := ⟨_, rfl⟩
    rw [hn] at CD ⊢
    clear hn
    obtain ⟨p, hp⟩ : ∃ p, pOk s.data.toList = p := ⟨_, rfl⟩
    rw [hp] at CE ⊢
    clear hp
    cases n with
    | true =>
      go_enter Tryz.func109, Tryz.ntmps109
      go_wp2_with (go_at_call 111; go_must (refine (CD.out _).mono ?_; rintro e w1 ⟨rfl, hb⟩))
      go_ret
      exact ⟨rfl, hb⟩
    | false =>
      cases p with
      | true =>
        go_enter Tryz.func109, Tryz.ntmps109
        go_wp2_with fail
        go_at_call 111
        refine (CD.out _).mono ?_
        rintro e w1 ⟨rfl, hb⟩
        go_wp2_with fail
        go_at_call 140
        refine (CW.out _ (HG.out.on hb)).mono ?_
        rintro e w2 ⟨rfl, hb2⟩
        go_wp2_with fail
        go_at_call 111
        refine (CE.out _).mono ?_
        rintro e w3 ⟨rfl, hb3⟩
        go_wp2_with fail
        go_ret
        exact ⟨rfl, onto (onto hb hb2) hb3⟩
      | false =>
        go_enter Tryz.func109, Tryz.ntmps109
        go_wp2_with fail
        go_at_call 111
        refine (CD.out _).mono ?_
        rintro e w1 ⟨rfl, hb⟩
        go_wp2_with fail
        go_at_call 140
        refine (CW.out _ (HG.out.on hb)).mono ?_
        rintro e w2 ⟨rfl, hb2⟩
        go_wp2_with fail
        go_at_call 111
        refine (CE.out _).mono ?_
        rintro e w3 ⟨rfl, hb3⟩
        go_wp2_with fail
        go_ret
        exact ⟨rfl, onto (onto hb hb2) hb3⟩
end Go.Proofs.YtkhjahpkbjafaaaGreatDoor
namespace Go.Proofs.YtkhjahpkbjafaaaGreatDoor
open Go.RowKit

/-- what take answers -/
def twV (t : ByteArray) (i : Nat) (x : LW) : Value :=
  if x.er = 0 then .tuple #[.agg #[.int .i64 (x.kd : Nat), .string (mkS x.tx), .int .i64 (i : Nat)], .int .i64 (x.nx : Nat), .agg #[.int .i64 0, .int .i64 0, .int .i64 0, .int .i64 0]]
  else .tuple #[.agg #[.int .i64 0, .string ⟨#[]⟩, .int .i64 0], .int .i64 0, faultV t (x.ea : Nat) (x.er : Nat)]
theorem ret_of {a b : Value} (h : a = b) : Ending.returned a = .returned b := by rw [h]
theorem tw_ok {t : ByteArray} {i : Nat} {x : LW} {k : Int} {m : ByteArray} {n : Int} (h : x.er = 0) (hk : k = (x.kd : Nat)) (hm : m = mkS x.tx) (hn : n = (x.nx : Nat)) :
    twV t i x = .tuple #[.agg #[.int .i64 k, .string m, .int .i64 (i : Nat)], .int .i64 n, .agg #[.int .i64 0, .int .i64 0, .int .i64 0, .int .i64 0]] := by
  unfold twV; rw [if_pos h, hk, hm, hn]
theorem tw_no {t : ByteArray} {i : Nat} {x : LW} {a e : Int} (h : ¬ x.er = 0) (ha : a = (x.ea : Nat)) (he : e = (x.er : Nat)) :
    twV t i x = .tuple #[.agg #[.int .i64 0, .string ⟨#[]⟩, .int .i64 0], .int .i64 0, faultV t a e] := by
  unfold twV; rw [if_neg h, ha, he]
theorem refuse_ex (t : ByteArray) (a x : Int) (w : World) (ht : t.size ≤ 1000000) :
    Calls Tryz.prog 82 #[.string t, .int .i64 a, .int .i64 x] w fun e w' => ∃ f1 f2 f3 : Int, Hid (faultV t a x = .agg #[.int .i64 x, .int .i64 f1, .int .i64 f2, .int .i64 f3]) ∧ e = .returned (.tuple #[.agg #[.int .i64 0, .string ⟨#[]⟩, .int .i64 0], .int .i64 0, .agg #[.int .i64 x, .int .i64 f1, .int .i64 f2, .int .i64 f3]]) ∧ Below w.heap.size w w' :=
  (refuse_any t a x w ht).mono fun _ _ ⟨he, hb⟩ => ⟨_, _, _, rfl, he, hb⟩
set_option maxRecDepth 100000 in
set_option maxHeartbeats 1000000 in
theorem tstr_any (t : ByteArray) (i : Nat) (w : World) (ht : t.size ≤ 1000000) :
    Calls Tryz.prog 79 #[.string t, .int .i64 (i : Int)] w fun e w' => e = .returned (twV t i (lwS t.data.toList i)) ∧ Below w.heap.size w w' := by
  have CU := hid (fun X => unq_any t (i : Int) X ht)
  have CR := hid (fun a x X => refuse_ex t a x X ht)
  have HS : Hid (lwS t.data.toList i = if 0 ≤ (unqJ t.data.toList i).2.2 then ⟨0, [], 0, 4, (unqJ t.data.toList i).2.2.toNat⟩ else if 4096 < (unqJ t.data.toList i).1.length then ⟨0, [], 0, 2, i⟩ else ⟨2, (unqJ t.data.toList i).1, (unqJ t.data.toList i).2.1, 0, 0⟩) := rfl
  obtain ⟨⟨q1, q2, q3⟩, hQ⟩ : ∃ Q, unqJ t.data.toList (i : Int) = Q := ⟨_, rfl⟩
  rw [hQ] at CU HS
  clear hQ
  simp only at CU HS
  obtain ⟨L, hL⟩ : ∃ L, lwS t.data.toList i = L := ⟨_, rfl⟩
  rw [hL] at HS ⊢
  clear hL
  obtain ⟨m, hm⟩ : ∃ m, mkS q1 = m := ⟨_, rfl⟩
  have HM := hid (show m = mkS q1 from hm.symm)
  have hms : m.size = q1.length := by rw [← hm, mkS_size]
  rw [hm] at CU
  clear hm
  by_cases h0 : 0 ≤ q3
  · have HE := hid (HS.out.trans (if_pos h0))
    have HF := hid (show twV t i L = .tuple #[.agg #[.int .i64 0, .string ⟨#[]⟩, .int .i64 0], .int .i64 0, faultV t q3 4] from tw_no (by rw [HE.out]; simp) (by rw [HE.out]; simp only; omega) (by rw [HE.out]; rfl))
    go_enter Tryz.func79, Tryz.ntmps79
    go_wp2_with fail
    go_at_call 108
    refine (CU.out _).mono ?_
    rintro e w1 ⟨rfl, hb1⟩
    have HB1 : Hid (Below (Tryz.pwW w).heap.size (Tryz.pwW w) w1) := hb1
    clear hb1
    go_wp2_with fail
    go_at_call 82
    refine (CR.out _ _ _).mono ?_
    rintro e w9 ⟨f1, f2, f3, HV, rfl, hb9⟩
    have HB9 : Hid (Below (Tryz.pwW w).heap.size (Tryz.pwW w) w9) := onto HB1.out hb9
    clear hb9
    obtain ⟨⟨a0, a1, a2, a3⟩, ⟨b0, b1, b2, b3, b4⟩, hz9⟩ := Tryz.pw_keeps HB9.out
    go_wp2_with fail
    refine bodyPost_ret (v := .tuple #[.agg #[.int .i64 0, .string ⟨#[]⟩, .int .i64 0], .int .i64 0, .agg #[.int .i64 4, .int .i64 f1, .int .i64 f2, .int .i64 f3]]) (by simp [results, Tryz.results79, go_sem, a0, a1, a2, b0, b1, b2, b3]) rfl ⟨ret_of (by rw [HF.out, HV.out]), ?_⟩
    exact set7 (onto (Tryz.pw_bel w) HB9.out) (Nat.le_refl _) (Nat.le_succ _)
  · have h0' : q3 < 0 := by omega
    by_cases h4 : 4096 < q1.length
    · have HE := hid (HS.out.trans ((if_neg h0).trans (if_pos h4)))
      have HF := hid (show twV t i L = .tuple #[.agg #[.int .i64 0, .string ⟨#[]⟩, .int .i64 0], .int .i64 0, faultV t (i : Int) 2] from tw_no (by rw [HE.out]; simp) (by rw [HE.out]) (by rw [HE.out]; rfl))
      have h4' : 4096 < m.size := by omega
      clear hms h4
      go_enter Tryz.func79, Tryz.ntmps79
      go_wp2_with fail
      go_at_call 108
      refine (CU.out _).mono ?_
      rintro e w1 ⟨rfl, hb1⟩
      have HB1 : Hid (Below (Tryz.pwW w).heap.size (Tryz.pwW w) w1) := hb1
      clear hb1
      go_wp2_with fail
      go_at_call 82
      refine (CR.out _ _ _).mono ?_
      rintro e w9 ⟨f1, f2, f3, HV, rfl, hb9⟩
      have HB9 : Hid (Below (Tryz.pwW w).heap.size (Tryz.pwW w) w9) := onto HB1.out hb9
      clear hb9
      obtain ⟨⟨a0, a1, a2, a3⟩, ⟨b0, b1, b2, b3, b4⟩, hz9⟩ := Tryz.pw_keeps HB9.out
      go_wp2_with fail
      refine bodyPost_ret (v := .tuple #[.agg #[.int .i64 0, .string ⟨#[]⟩, .int .i64 0], .int .i64 0, .agg #[.int .i64 2, .int .i64 f1, .int .i64 f2, .int .i64 f3]]) (by simp [results, Tryz.results79, go_sem, a0, a1, a2, b0, b1, b2, b3]) rfl ⟨ret_of (by rw [HF.out, HV.out]), ?_⟩
      exact set7 (onto (Tryz.pw_bel w) HB9.out) (Nat.le_refl _) (Nat.le_succ _)
    · have HE := hid (HS.out.trans ((if_neg h0).trans (if_neg h4)))
      have HF := hid (show twV t i L = .tuple #[.agg #[.int .i64 2, .string m, .int .i64 (i : Nat)], .int .i64 (q2 : Nat), .agg #[.int .i64 0, .int .i64 0, .int .i64 0, .int .i64 0]] from tw_ok (by rw [HE.out]) (by rw [HE.out]; rfl) (by rw [HE.out]; exact HM.out) (by rw [HE.out]))
      have h4' : m.size ≤ 4096 := by omega
      clear hms h4
      go_enter Tryz.func79, Tryz.ntmps79
      go_wp2_with fail
      go_at_call 108
      refine (CU.out _).mono ?_
      rintro e w1 ⟨rfl, hb1⟩
      have HB1 : Hid (Below (Tryz.pwW w).heap.size (Tryz.pwW w) w1) := hb1
      clear hb1
      obtain ⟨⟨a0, a1, a2, a3⟩, ⟨b0, b1, b2, b3, b4⟩, hz9⟩ := Tryz.pw_keeps HB1.out
      go_wp2_with fail
      refine bodyPost_ret (v := .tuple #[.agg #[.int .i64 2, .string m, .int .i64 (i : Nat)], .int .i64 (q2 : Nat), .agg #[.int .i64 0, .int .i64 0, .int .i64 0, .int .i64 0]]) (by simp [results, Tryz.results79, go_sem, a0, a1, a2, b0, b1, b2, b3]) rfl ⟨ret_of (by rw [HF.out]), ?_⟩
      exact set7 (onto (Tryz.pw_bel w) HB1.out) (Nat.le_refl _) (Nat.le_succ _)
end Go.Proofs.YtkhjahpkbjafaaaGreatDoor
namespace Go.Proofs.YtkhjahpkbjafaaaGreatDoor
open Go.RowKit

theorem jcut_list (t : ByteArray) (i n : Nat) : (t.extract i (i + n)).data.toList = (t.data.toList.drop i).take n := by
  have h := drop_ext t i (i + n)
  rwa [Nat.add_sub_cancel_left] at h
set_option maxRecDepth 100000 in
set_option maxHeartbeats 1000000 in
theorem tname_any (t : ByteArray) (i : Nat) (w : World) (ht : t.size ≤ 1000000) (hi : i ≤ t.size) :
    Calls Tryz.prog 80 #[.string t, .int .i64 (i : Int)] w fun e w' => e = .returned (twV t i (lwL t.data.toList i)) ∧ Below w.heap.size w w' := by
  have CE := hid (fun X => rowEnd_lc t i X ht hi)
  have CR := hid (fun a x X => refuse_ex t a x X ht)
  have HL : Hid (lwL t.data.toList i = if litB ((t.data.toList.drop i).take (run lowC (t.data.toList.drop i))) = true then ⟨4, (t.data.toList.drop i).take (run lowC (t.data.toList.drop i)), i + run lowC (t.data.toList.drop i), 0, 0⟩ else ⟨0, [], 0, 4, i⟩) := rfl
  have hn := run_le lowC (t.data.toList.drop i)
  rw [List.length_drop, size_list] at hn
  obtain ⟨n, hnn⟩ : ∃ n, run lowC (t.data.toList.drop i) = n := ⟨_, rfl⟩
  rw [hnn] at CE HL hn
  clear hnn
  have HC := hid (jcut_list t i n)
  have CP := hid (fun X => piece_any t i (i + n) 4 X ht (by omega) (by omega))
  obtain ⟨P, hP⟩ : ∃ P, (t.data.toList.drop i).take n = P := ⟨_, rfl⟩
  obtain ⟨m, hm⟩ : ∃ m, t.extract i (i + n) = m := ⟨_, rfl⟩
  rw [hP] at HL HC
  rw [hm] at HC CP
  have HM := hid hm
  clear hP
  have HMS := hid (mkS_of m P HC.out)
  have HT := hid (show m.toList = P by rw [ByteArray.toList_eq]; exact HC.out)
  obtain ⟨L, hL⟩ : ∃ L, lwL t.data.toList i = L := ⟨_, rfl⟩
  rw [hL] at HL ⊢
  clear hL
  have hin : i + n ≤ t.size := by omega
  cases hl : litB P with
  | true =>
    have HE := hid (HL.out.trans (if_pos hl))
    have HF := hid (show twV t i L = .tuple #[.agg #[.int .i64 4, .string m, .int .i64 (i : Nat)], .int .i64 ((i + n : Nat) : Int), .agg #[.int .i64 0, .int .i64 0, .int .i64 0, .int .i64 0]] from tw_ok (by rw [HE.out]) (by rw [HE.out]; rfl) (by rw [HE.out]; exact HMS.out) (by rw [HE.out]))
    have hc : m.toList = [116, 114, 117, 101] ∨ (¬ m.toList = [116, 114, 117, 101] ∧ m.toList = [102, 97, 108, 115, 101]) ∨ (¬ m.toList = [116, 114, 117, 101] ∧ ¬ m.toList = [102, 97, 108, 115, 101] ∧ m.toList = [110, 117, 108, 108]) := by
      rw [HT.out]
      have h := of_decide_eq_true hl
      rcases h with h | h | h <;> subst h <;> decide
    clear hl
    rcases hc with g1 | ⟨g1, g2⟩ | ⟨g1, g2, g3⟩
    all_goals
      go_enter Tryz.func80, Tryz.ntmps80
      go_wp2_with fail
      go_at_call 56
      refine (CE.out _).mono ?_
      rintro e w1 ⟨rfl, hw1⟩
      obtain rfl := hw1.symm
      clear hw1
      go_wp2_with fail
      go_at_call 78
      refine (CP.out _).mono ?_
      rintro e w9 ⟨rfl, hb9⟩
      have HB9 : Hid (Below (Tryz.pwW w).heap.size (Tryz.pwW w) w9) := hb9
      clear hb9
      obtain ⟨⟨a0, a1, a2, a3⟩, ⟨b0, b1, b2, b3, b4⟩, hz9⟩ := Tryz.pw_keeps HB9.out
      go_wp2_with fail
      refine bodyPost_ret (v := .tuple #[.agg #[.int .i64 4, .string m, .int .i64 (i : Nat)], .int .i64 ((i + n : Nat) : Int), .agg #[.int .i64 0, .int .i64 0, .int .i64 0, .int .i64 0]]) (by simp [results, Tryz.results80, go_sem, a0, a1, a2, b0, b1, b2, b3]) rfl ⟨ret_of (by rw [HF.out]), ?_⟩
      exact set7 (onto (Tryz.pw_bel w) HB9.out) (Nat.le_refl _) (Nat.le_succ _)
  | false =>
    have HE := hid (HL.out.trans (if_neg (by rw [hl]; decide)))
    have HF := hid (show twV t i L = .tuple #[.agg #[.int .i64 0, .string ⟨#[]⟩, .int .i64 0], .int .i64 0, faultV t (i : Int) 4] from tw_no (by rw [HE.out]; simp) (by rw [HE.out]) (by rw [HE.out]; rfl))
    have hc : ¬ m.toList = [116, 114, 117, 101] ∧ ¬ m.toList = [102, 97, 108, 115, 101] ∧ ¬ m.toList = [110, 117, 108, 108] := by
      rw [HT.out]
      have h := of_decide_eq_false hl
      exact ⟨fun e => h (.inl e), fun e => h (.inr (.inl e)), fun e => h (.inr (.inr e))⟩
    obtain ⟨g1, g2, g3⟩ := hc
    have e1 : (m.toList == [116, 114, 117, 101]) = false := by rw [beq_eq_false_iff_ne]; exact g1
    have e2 : (m.toList == [102, 97, 108, 115, 101]) = false := by rw [beq_eq_false_iff_ne]; exact g2
    have e3 : (m.toList == [110, 117, 108, 108]) = false := by rw [beq_eq_false_iff_ne]; exact g3
    clear hl g1 g2 g3
    go_enter Tryz.func80, Tryz.ntmps80
    go_wp2_with fail
    go_at_call 56
    refine (CE.out _).mono ?_
    rintro e w1 ⟨rfl, hw1⟩
    obtain rfl := hw1.symm
    clear hw1
    go_wp2_with fail
    go_at_call 82
    refine (CR.out _ _ _).mono ?_
    rintro e w9 ⟨f1, f2, f3, HV, rfl, hb9⟩
    have HB9 : Hid (Below (Tryz.pwW w).heap.size (Tryz.pwW w) w9) := hb9
    clear hb9
    obtain ⟨⟨a0, a1, a2, a3⟩, ⟨b0, b1, b2, b3, b4⟩, hz9⟩ := Tryz.pw_keeps HB9.out
    go_wp2_with fail
    refine bodyPost_ret (v := .tuple #[.agg #[.int .i64 0, .string ⟨#[]⟩, .int .i64 0], .int .i64 0, .agg #[.int .i64 4, .int .i64 f1, .int .i64 f2, .int .i64 f3]]) (by simp [results, Tryz.results80, go_sem, a0, a1, a2, b0, b1, b2, b3]) rfl ⟨ret_of (by rw [HF.out, HV.out]), ?_⟩
    exact set7 (onto (Tryz.pw_bel w) HB9.out) (Nat.le_refl _) (Nat.le_succ _)
/-- what a number's row is, by why it is none -/
theorem lwN_ne (T : List UInt8) (i : Nat) (P : List UInt8) (hP : (T.drop i).take (run numC (T.drop i)) = P) :
    (neI P = 0 ∧ lwN T i = ⟨3, P, i + run numC (T.drop i), 0, 0⟩) ∨ (neI P ≠ 0 ∧ 0 ≤ neI P ∧ lwN T i = ⟨0, [], 0, (neI P).toNat, i⟩) := by
  have hl : P.length = run numC (T.drop i) := by
    rw [← hP, List.length_take]; exact Nat.min_eq_left (run_le _ _)
  unfold lwN neI
  rw [hP, hl]
  by_cases h4 : 400 < run numC (T.drop i)
  · rw [if_pos h4, if_pos h4]; right; exact ⟨by decide, by decide, rfl⟩
  · rw [if_neg h4, if_neg h4]
    have e : numB P = (pOk P && pwOk (pP P) && decide (P.length ≤ 400)) := rfl
    rw [e, hl, decide_eq_true (show run numC (T.drop i) ≤ 400 by omega), Bool.and_true]
    cases h1 : pOk P with
    | false => right; rw [Bool.false_and]; exact ⟨by decide, by decide, rfl⟩
    | true =>
      rw [Bool.true_and]
      cases h2 : pwOk (pP P) with
      | false => right; exact ⟨by decide, by decide, rfl⟩
      | true => left; exact ⟨by decide, rfl⟩
theorem numC_lt {b : UInt8} (h : numC b = true) : b.toNat < 128 := by
  unfold numC numS at h
  rw [Bool.or_eq_true] at h
  rcases h with h | h <;> (have := of_decide_eq_true h; omega)
theorem jrun_all (p : UInt8 → Bool) (l : List UInt8) : ∀ b ∈ l.take (run p l), p b = true := by
  intro b hb
  have : l.take (run p l) = l.takeWhile p := (List.prefix_iff_eq_take.1 (List.takeWhile_prefix p)).symm
  rw [this] at hb
  exact List.all_eq_true.1 (List.all_takeWhile (p := p) (l := l)) b hb
set_option maxRecDepth 100000 in
set_option maxHeartbeats 1000000 in
theorem tnum_any (t : ByteArray) (i : Nat) (w : World) (ht : t.size ≤ 1000000) (hi : i ≤ t.size) (hg : GlobU w) :
    Calls Tryz.prog 81 #[.string t, .int .i64 (i : Int)] w fun e w' => e = .returned (twV t i (lwN t.data.toList i)) ∧ Below w.heap.size w w' := by
  have HG := hid (hg.on (Tryz.pw_bel w))
  have CE := hid (fun X => rowEnd_nc t i X ht hi)
  have CR := hid (fun a x X => refuse_ex t a x X ht)
  have HL := hid (fun P h => lwN_ne t.data.toList i P h)
  have HA := hid (jrun_all numC (t.data.toList.drop i))
  have hn := run_le numC (t.data.toList.drop i)
  rw [List.length_drop, size_list] at hn
  obtain ⟨n, hnn⟩ : ∃ n, run numC (t.data.toList.drop i) = n := ⟨_, rfl⟩
  rw [hnn] at CE HL hn HA
  clear hnn
  have HC := hid (jcut_list t i n)
  have CP := hid (fun X => piece_any t i (i + n) 3 X ht (by omega) (by omega))
  have CN := hid (fun X h => nerr_any (t.extract i (i + n)) X (by simp; omega) (fun b hb => by rw [HC.out] at hb; exact numC_lt (HA.out b hb)) h)
  rw [HC.out] at CN
  obtain ⟨P, hP⟩ : ∃ P, (t.data.toList.drop i).take n = P := ⟨_, rfl⟩
  obtain ⟨m, hm⟩ : ∃ m, t.extract i (i + n) = m := ⟨_, rfl⟩
  have hl := HL.out P hP
  rw [hP] at HC CN
  rw [hm] at HC CP CN
  have HM := hid hm
  clear hP HL HA
  have HMS := hid (mkS_of m P HC.out)
  obtain ⟨L, hL⟩ : ∃ L, lwN t.data.toList i = L := ⟨_, rfl⟩
  rw [hL] at hl ⊢
  clear hL
  obtain ⟨x, hx⟩ : ∃ x, neI P = x := ⟨_, rfl⟩
  rw [hx] at hl CN
  clear hx
  have hin : i + n ≤ t.size := by omega
  rcases hl with ⟨rfl, he⟩ | ⟨h0, h1, he⟩
  · have HE := hid he
    clear he
    have HF := hid (show twV t i L = .tuple #[.agg #[.int .i64 3, .string m, .int .i64 (i : Nat)], .int .i64 ((i + n : Nat) : Int), .agg #[.int .i64 0, .int .i64 0, .int .i64 0, .int .i64 0]] from tw_ok (by rw [HE.out]) (by rw [HE.out]; rfl) (by rw [HE.out]; exact HMS.out) (by rw [HE.out]))
    go_enter Tryz.func81, Tryz.ntmps81
    go_wp2_with fail
    go_at_call 56
    refine (CE.out _).mono ?_
    rintro e w1 ⟨rfl, hw1⟩
    obtain rfl := hw1.symm
    clear hw1
    go_wp2_with fail
    go_at_call 109
    refine (CN.out _ HG.out).mono ?_
    rintro e w2 ⟨rfl, hb2⟩
    have HB2 : Hid (Below (Tryz.pwW w).heap.size (Tryz.pwW w) w2) := hb2
    clear hb2
    go_wp2_with fail
    go_at_call 78
    refine (CP.out _).mono ?_
    rintro e w9 ⟨rfl, hb9⟩
    have HB9 : Hid (Below (Tryz.pwW w).heap.size (Tryz.pwW w) w9) := onto HB2.out hb9
    clear hb9
    obtain ⟨⟨a0, a1, a2, a3⟩, ⟨b0, b1, b2, b3, b4⟩, hz9⟩ := Tryz.pw_keeps HB9.out
    go_wp2_with fail
    refine bodyPost_ret (v := .tuple #[.agg #[.int .i64 3, .string m, .int .i64 (i : Nat)], .int .i64 ((i + n : Nat) : Int), .agg #[.int .i64 0, .int .i64 0, .int .i64 0, .int .i64 0]]) (by simp [results, Tryz.results81, go_sem, a0, a1, a2, b0, b1, b2, b3]) rfl ⟨ret_of (by rw [HF.out]), ?_⟩
    exact set7 (onto (Tryz.pw_bel w) HB9.out) (Nat.le_refl _) (Nat.le_succ _)
  · have HE := hid he
    clear he
    have HF := hid (show twV t i L = .tuple #[.agg #[.int .i64 0, .string ⟨#[]⟩, .int .i64 0], .int .i64 0, faultV t (i : Int) x] from tw_no (by rw [HE.out]; simp only; omega) (by rw [HE.out]) (by rw [HE.out]; simp only; omega))
    have hx0 : (x != 0) = true := by rw [bne_iff_ne]; exact h0
    have hx1 : (x == 0) = false := by rw [beq_eq_false_iff_ne]; exact h0
    go_enter Tryz.func81, Tryz.ntmps81
    go_wp2_with fail
    go_at_call 56
    refine (CE.out _).mono ?_
    rintro e w1 ⟨rfl, hw1⟩
    obtain rfl := hw1.symm
    clear hw1
    go_wp2_with fail
    go_at_call 109
    refine (CN.out _ HG.out).mono ?_
    rintro e w2 ⟨rfl, hb2⟩
    have HB2 : Hid (Below (Tryz.pwW w).heap.size (Tryz.pwW w) w2) := hb2
    clear hb2
    go_wp2_with fail
    go_at_call 82
    refine (CR.out _ _ _).mono ?_
    rintro e w9 ⟨f1, f2, f3, HV, rfl, hb9⟩
    have HB9 : Hid (Below (Tryz.pwW w).heap.size (Tryz.pwW w) w9) := onto HB2.out hb9
    clear hb9
    obtain ⟨⟨a0, a1, a2, a3⟩, ⟨b0, b1, b2, b3, b4⟩, hz9⟩ := Tryz.pw_keeps HB9.out
    go_wp2_with fail
    refine bodyPost_ret (v := .tuple #[.agg #[.int .i64 0, .string ⟨#[]⟩, .int .i64 0], .int .i64 0, .agg #[.int .i64 x, .int .i64 f1, .int .i64 f2, .int .i64 f3]]) (by simp [results, Tryz.results81, go_sem, a0, a1, a2, b0, b1, b2, b3]) rfl ⟨ret_of (by rw [HF.out, HV.out]), ?_⟩
    exact set7 (onto (Tryz.pw_bel w) HB9.out) (Nat.le_refl _) (Nat.le_succ _)
end Go.Proofs.YtkhjahpkbjafaaaGreatDoor
namespace Go.Proofs.YtkhjahpkbjafaaaGreatDoor
open Go.RowKit

theorem tw_shape (t : ByteArray) (i : Nat) (x : LW) : ∃ (k : Int) (m : ByteArray) (p n e f1 f2 f3 : Int), Hid (twV t i x = .tuple #[.agg #[.int .i64 k, .string m, .int .i64 p], .int .i64 n, .agg #[.int .i64 e, .int .i64 f1, .int .i64 f2, .int .i64 f3]]) := by
  unfold twV faultV
  split
  · exact ⟨_, _, _, _, _, _, _, _, rfl⟩
  · exact ⟨_, _, _, _, _, _, _, _, rfl⟩
theorem low_num {b : UInt8} (h : lowC b = true) : numS b = false := by
  unfold lowC at h; unfold numS
  have := of_decide_eq_true h
  exact decide_eq_false (by omega)
theorem jnum_of {b : UInt8} (h1 : lowC b = false) (h2 : numC b = true) : numS b = true := by
  unfold numC at h2; unfold lowC at h1
  have := of_decide_eq_false h1
  rw [Bool.or_eq_true] at h2
  rcases h2 with h | h
  · exact h
  · have := of_decide_eq_true h; omega
theorem num_not {b : UInt8} (h2 : numC b = false) : numS b = false := by
  unfold numC at h2; rw [Bool.or_eq_false_iff] at h2; exact h2.1
theorem lwL_none {t : ByteArray} {i : Nat} (hi : i < t.size) (h : lowC t[i] = false) : lwL t.data.toList i = ⟨0, [], 0, 4, i⟩ := by
  have hr : run lowC (t.data.toList.drop i) = 0 := by
    refine run_is 0 (Nat.zero_le _) (fun k _ hk => absurd hk (by omega)) (fun hl => ?_)
    rw [List.getElem_drop]; exact h
  unfold lwL; rw [hr]; rfl
set_option maxRecDepth 100000 in
set_option maxHeartbeats 1000000 in
theorem tk_any (t : ByteArray) (i : Nat) (w : World) (ht : t.size ≤ 1000000) (hi : i < t.size) (hbl : blB t[i] = false) (hg : GlobU w) :
    Calls Tryz.prog 57 #[.string t, .int .i64 (i : Int)] w fun e w' => e = .returned (twV t i (lw t.data.toList i)) ∧ Below w.heap.size w w' := by
  have HG := hid (hg.on (Tryz.pw_bel w))
  have CR := hid (fun a x X => refuse_ex t a x X ht)
  have CS := hid (fun X => among_of ⟨#[123, 125, 91, 93, 58, 44]⟩ sgnB in_sg t[i] X)
  have CL := hid (fun X => among_of ⟨#[97, 98, 99, 100, 101, 102, 103, 104, 105, 106, 107, 108, 109, 110, 111, 112, 113, 114, 115, 116, 117, 118, 119, 120, 121, 122]⟩ lowC in_lc t[i] X)
  have CN := hid (fun X => among_of ⟨#[48, 49, 50, 51, 52, 53, 54, 55, 56, 57, 43, 45, 46, 101, 69]⟩ numC in_nc t[i] X)
  have T1 := hid (fun X => tstr_any t i X ht)
  have T2 := hid (fun X => tname_any t i X ht (Nat.le_of_lt hi))
  have T3 := hid (fun X h => tnum_any t i X ht (Nat.le_of_lt hi) h)
  have CP := hid (fun X => piece_any t i (i + 1) 1 X ht (by omega) hi)
  have HT := hid (list_at t i hi)
  have hb := t[i].toNat_lt
  cases hsg : sgnB t[i] with
  | true =>
    rw [hsg] at CS
    have HW := hid (show lw t.data.toList i = ⟨1, [t[i]], i + 1, 0, 0⟩ from lw_sg HT.out hbl hsg)
    have HX := hid (show t.extract i (i + 1) = mkS [t[i]] from mkS_of _ _ (by
      rw [jcut_list, List.drop_eq_getElem_cons (by rw [size_list]; exact hi)]; rfl))
    obtain ⟨m, hm⟩ : ∃ m, t.extract i (i + 1) = m := ⟨_, rfl⟩
    rw [hm] at CP HX
    clear hm
    have HF := hid (show twV t i (lw t.data.toList i) = .tuple #[.agg #[.int .i64 1, .string m, .int .i64 (i : Nat)], .int .i64 ((i + 1 : Nat) : Int), .agg #[.int .i64 0, .int .i64 0, .int .i64 0, .int .i64 0]] from tw_ok (by rw [HW.out]) (by rw [HW.out]; rfl) (by rw [HW.out]; exact HX.out) (by rw [HW.out]))
    rw [HF.out]
    clear HF
    have CP2 : Hid (∀ X, Calls Tryz.prog 78 #[.string t, .int .i64 (i : Int), .int .i64 ((i : Int) + 1), .int .i64 1] X _) := CP.out
    clear HW HX hsg
    go_enter Tryz.func57, Tryz.ntmps57
    go_wp2_with fail
    go_at_call 77
    refine (CS.out _).mono ?_
    rintro e w1 ⟨rfl, hw1⟩
    obtain rfl := hw1.symm
    clear hw1
    go_wp2_with fail
    go_at_call 78
    refine (CP2.out _).mono ?_
    rintro e w9 ⟨rfl, hb9⟩
    have HB9 : Hid (Below (Tryz.pwW w).heap.size (Tryz.pwW w) w9) := hb9
    clear hb9
    obtain ⟨⟨a0, a1, a2, a3⟩, ⟨b0, b1, b2, b3, b4⟩, hz9⟩ := Tryz.pw_keeps HB9.out
    go_wp2_with fail
    refine bodyPost_ret (v := .tuple #[.agg #[.int .i64 1, .string m, .int .i64 (i : Nat)], .int .i64 ((i + 1 : Nat) : Int), .agg #[.int .i64 0, .int .i64 0, .int .i64 0, .int .i64 0]]) (by simp [results, Tryz.results57, go_sem, a0, a1, a2, b0, b1, b2, b3]) rfl ⟨ret_of (rfl), ?_⟩
    exact set7 (onto (Tryz.pw_bel w) HB9.out) (Nat.le_refl _) (Nat.le_succ _)
  | false =>
  rw [hsg] at CS
  by_cases hqt : t[i].toNat = 34
  · have g : ((t[i].toNat : Int) == 34) = true := by rw [beq_iff_eq]; omega
    have HW := hid (show lw t.data.toList i = lwS t.data.toList i from lw_qt HT.out hbl hsg hqt)
    rw [HW.out]
    have HV := tw_shape t i (lwS t.data.toList i)
    obtain ⟨k, m, p, n, x, f1, f2, f3, HV⟩ := HV
    rw [HV.out] at T1 ⊢
    clear HV
    clear HW hsg hqt
    go_enter Tryz.func57, Tryz.ntmps57
    go_wp2_with fail
    go_at_call 77
    refine (CS.out _).mono ?_
    rintro e w1 ⟨rfl, hw1⟩
    obtain rfl := hw1.symm
    clear hw1
    go_wp2_with fail
    go_at_call 79
    refine (T1.out _).mono ?_
    rintro e w9 ⟨rfl, hb9⟩
    have HB9 : Hid (Below (Tryz.pwW w).heap.size (Tryz.pwW w) w9) := hb9
    clear hb9
    obtain ⟨⟨a0, a1, a2, a3⟩, ⟨b0, b1, b2, b3, b4⟩, hz9⟩ := Tryz.pw_keeps HB9.out
    go_wp2_with fail
    refine bodyPost_ret (v := .tuple #[.agg #[.int .i64 k, .string m, .int .i64 p], .int .i64 n, .agg #[.int .i64 x, .int .i64 f1, .int .i64 f2, .int .i64 f3]]) (by simp [results, Tryz.results57, go_sem, a0, a1, a2, b0, b1, b2, b3]) rfl ⟨ret_of (rfl), ?_⟩
    exact set7 (onto (Tryz.pw_bel w) HB9.out) (Nat.le_refl _) (Nat.le_succ _)
  · have g : ((t[i].toNat : Int) == 34) = false := by rw [beq_eq_false_iff_ne]; omega
    cases hlo : lowC t[i] with
    | true =>
      rw [hlo] at CL
      have HW := hid (show lw t.data.toList i = lwL t.data.toList i from lw_lt HT.out hbl hsg hqt (low_num hlo))
      rw [HW.out]
      have HV := tw_shape t i (lwL t.data.toList i)
      obtain ⟨k, m, p, n, x, f1, f2, f3, HV⟩ := HV
      rw [HV.out] at T2 ⊢
      clear HV
      clear HW hsg hqt hlo
      go_enter Tryz.func57, Tryz.ntmps57
      go_wp2_with fail
      go_at_call 77
      refine (CS.out _).mono ?_
      rintro e w1 ⟨rfl, hw1⟩
      obtain rfl := hw1.symm
      clear hw1
      go_wp2_with fail
      go_at_call 77
      refine (CL.out _).mono ?_
      rintro e w1 ⟨rfl, hw1⟩
      obtain rfl := hw1.symm
      clear hw1
      go_wp2_with fail
      go_at_call 80
      refine (T2.out _).mono ?_
      rintro e w9 ⟨rfl, hb9⟩
      have HB9 : Hid (Below (Tryz.pwW w).heap.size (Tryz.pwW w) w9) := hb9
      clear hb9
      obtain ⟨⟨a0, a1, a2, a3⟩, ⟨b0, b1, b2, b3, b4⟩, hz9⟩ := Tryz.pw_keeps HB9.out
      go_wp2_with fail
      refine bodyPost_ret (v := .tuple #[.agg #[.int .i64 k, .string m, .int .i64 p], .int .i64 n, .agg #[.int .i64 x, .int .i64 f1, .int .i64 f2, .int .i64 f3]]) (by simp [results, Tryz.results57, go_sem, a0, a1, a2, b0, b1, b2, b3]) rfl ⟨ret_of (rfl), ?_⟩
      exact set7 (onto (Tryz.pw_bel w) HB9.out) (Nat.le_refl _) (Nat.le_succ _)
    | false =>
      rw [hlo] at CL
      cases hnc : numC t[i] with
      | true =>
        rw [hnc] at CN
        have HW := hid (show lw t.data.toList i = lwN t.data.toList i from lw_nm HT.out hbl hsg hqt (jnum_of hlo hnc))
        rw [HW.out]
        have HV := tw_shape t i (lwN t.data.toList i)
        obtain ⟨k, m, p, n, x, f1, f2, f3, HV⟩ := HV
        rw [HV.out] at T3 ⊢
        clear HV
        clear HW hsg hqt hlo hnc
        go_enter Tryz.func57, Tryz.ntmps57
        go_wp2_with fail
        go_at_call 77
        refine (CS.out _).mono ?_
        rintro e w1 ⟨rfl, hw1⟩
        obtain rfl := hw1.symm
        clear hw1
        go_wp2_with fail
        go_at_call 77
        refine (CL.out _).mono ?_
        rintro e w1 ⟨rfl, hw1⟩
        obtain rfl := hw1.symm
        clear hw1
        go_wp2_with fail
        go_at_call 77
        refine (CN.out _).mono ?_
        rintro e w1 ⟨rfl, hw1⟩
        obtain rfl := hw1.symm
        clear hw1
        go_wp2_with fail
        go_at_call 81
        refine (T3.out _ HG.out).mono ?_
        rintro e w9 ⟨rfl, hb9⟩
        have HB9 : Hid (Below (Tryz.pwW w).heap.size (Tryz.pwW w) w9) := hb9
        clear hb9
        obtain ⟨⟨a0, a1, a2, a3⟩, ⟨b0, b1, b2, b3, b4⟩, hz9⟩ := Tryz.pw_keeps HB9.out
        go_wp2_with fail
        refine bodyPost_ret (v := .tuple #[.agg #[.int .i64 k, .string m, .int .i64 p], .int .i64 n, .agg #[.int .i64 x, .int .i64 f1, .int .i64 f2, .int .i64 f3]]) (by simp [results, Tryz.results57, go_sem, a0, a1, a2, b0, b1, b2, b3]) rfl ⟨ret_of (rfl), ?_⟩
        exact set7 (onto (Tryz.pw_bel w) HB9.out) (Nat.le_refl _) (Nat.le_succ _)
      | false =>
        rw [hnc] at CN
        have HW := hid (show lw t.data.toList i = ⟨0, [], 0, 4, i⟩ from (lw_lt HT.out hbl hsg hqt (num_not hnc)).trans (lwL_none hi hlo))
        have HF := hid (show twV t i (lw t.data.toList i) = .tuple #[.agg #[.int .i64 0, .string ⟨#[]⟩, .int .i64 0], .int .i64 0, faultV t (i : Int) 4] from tw_no (by rw [HW.out]; simp) (by rw [HW.out]) (by rw [HW.out]; rfl))
        clear HW hsg hqt hlo hnc
        go_enter Tryz.func57, Tryz.ntmps57
        go_wp2_with fail
        go_at_call 77
        refine (CS.out _).mono ?_
        rintro e w1 ⟨rfl, hw1⟩
        obtain rfl := hw1.symm
        clear hw1
        go_wp2_with fail
        go_at_call 77
        refine (CL.out _).mono ?_
        rintro e w1 ⟨rfl, hw1⟩
        obtain rfl := hw1.symm
        clear hw1
        go_wp2_with fail
        go_at_call 77
        refine (CN.out _).mono ?_
        rintro e w1 ⟨rfl, hw1⟩
        obtain rfl := hw1.symm
        clear hw1
        go_wp2_with fail
        go_at_call 82
        refine (CR.out _ _ _).mono ?_
        rintro e w9 ⟨f1, f2, f3, HV, rfl, hb9⟩
        have HB9 : Hid (Below (Tryz.pwW w).heap.size (Tryz.pwW w) w9) := hb9
        clear hb9
        obtain ⟨⟨a0, a1, a2, a3⟩, ⟨b0, b1, b2, b3, b4⟩, hz9⟩ := Tryz.pw_keeps HB9.out
        go_wp2_with fail
        refine bodyPost_ret (v := .tuple #[.agg #[.int .i64 0, .string ⟨#[]⟩, .int .i64 0], .int .i64 0, .agg #[.int .i64 4, .int .i64 f1, .int .i64 f2, .int .i64 f3]]) (by simp [results, Tryz.results57, go_sem, a0, a1, a2, b0, b1, b2, b3]) rfl ⟨ret_of (by rw [HF.out, HV.out]), ?_⟩
        exact set7 (onto (Tryz.pw_bel w) HB9.out) (Nat.le_refl _) (Nat.le_succ _)
end Go.Proofs.YtkhjahpkbjafaaaGreatDoor
namespace Go.Proofs.YtkhjahpkbjafaaaGreatDoor
open Go.RowKit

theorem blank_run {T : List UInt8} {i : Nat} (hi : i < T.length) (h : blB T[i] = true) : run blB (T.drop i) = run blB (T.drop (i + 1)) + 1 := by
  rw [List.drop_eq_getElem_cons hi]
  unfold run; rw [List.takeWhile_cons, if_pos h, List.length_cons]
theorem blank_stop {T : List UInt8} {i : Nat} (hi : i < T.length) (h : blB T[i] = false) : run blB (T.drop i) = 0 := by
  rw [List.drop_eq_getElem_cons hi]
  unfold run; rw [List.takeWhile_cons, if_neg (by simp [h])]; rfl
theorem at_q {T : List UInt8} {i : Nat} (hi : i < T.length) : T[i]? = some T[i] := List.getElem?_eq_getElem hi
/-- a row of blanks is passed at once -/
theorem lx_row {T : List UInt8} {acc : List Wd} : ∀ (n i f : Nat), i + n = T.length → T.length < i + f →
    ∃ f', lx T f i acc = lx T f' (i + run blB (T.drop i)) acc ∧ T.length < i + run blB (T.drop i) + f' ∧ i + run blB (T.drop i) ≤ T.length ∧ ∀ b, T[i + run blB (T.drop i)]? = some b → blB b = false
  | 0, i, f, h, hf => by
    have hr : run blB (T.drop i) = 0 := by rw [List.drop_of_length_le (by omega)]; rfl
    rw [hr]; exact ⟨f, rfl, by omega, by omega, fun b hb => by rw [List.getElem?_eq_none (by omega)] at hb; cases hb⟩
  | n + 1, i, f, h, hf => by
    have hi : i < T.length := by omega
    cases hb : blB T[i] with
    | false =>
      rw [blank_stop hi hb]
      exact ⟨f, rfl, by omega, by omega, fun b hbb => by rw [Nat.add_zero, at_q hi] at hbb; injection hbb with e; rw [← e]; exact hb⟩
    | true =>
      have hw := lw_bl (at_q hi) hb
      obtain ⟨f1, h1, h2⟩ := lx_blank (acc := acc) hf hi (by rw [hw]) (by rw [hw]) (by rw [hw]; exact Nat.lt_succ_self _)
      rw [hw] at h1 h2
      obtain ⟨f2, h3, h4, h5, h6⟩ := lx_row (acc := acc) n (i + 1) f1 (by omega) h2
      have e : i + run blB (T.drop i) = i + 1 + run blB (T.drop (i + 1)) := by rw [blank_run hi hb]; omega
      rw [e]
      exact ⟨f2, h1.trans h3, h4, h5, h6⟩
/-- a word that is right is no blank, and goes on behind its beginning -/
theorem lw_good {T : List UInt8} {i : Nat} {b : UInt8} (hT : T[i]? = some b) (hbl : blB b = false) (he : (lw T i).er = 0) : (lw T i).kd ≠ 9 ∧ i < (lw T i).nx ∧ (lw T i).nx ≤ T.length := by
  have hi : i < T.length := (List.getElem?_eq_some_iff.1 hT).1
  cases hsg : sgnB b with
  | true => rw [lw_sg hT hbl hsg]; exact ⟨by simp, by simp, hi⟩
  | false =>
    by_cases hq : b.toNat = 34
    · have e := lw_qt hT hbl hsg hq
      rw [e] at he ⊢
      unfold lwS at he ⊢
      by_cases h0 : 0 ≤ (unqJ T i).2.2
      · rw [if_pos h0] at he; simp at he
      · rw [if_neg h0] at he ⊢
        by_cases h4 : 4096 < (unqJ T i).1.length
        · rw [if_pos h4] at he; simp at he
        · rw [if_neg h4]
          exact ⟨by simp, unqJ_in T i (by omega)⟩
    · cases hn : numS b with
      | true =>
        have e := lw_nm hT hbl hsg hq hn
        rw [e] at he ⊢
        rcases lwN_ne T i _ rfl with ⟨-, h1⟩ | ⟨h0, h1, h2⟩
        · rw [h1]
          have hp := run_pos hT (num_sc hn)
          have hl := run_le numC (T.drop i)
          rw [List.length_drop] at hl
          exact ⟨by simp, by simp only; omega, by simp only; omega⟩
        · rw [h2] at he; simp only at he; omega
      | false =>
        have e := lw_lt hT hbl hsg hq hn
        rw [e] at he ⊢
        unfold lwL at he ⊢
        cases hl : litB ((T.drop i).take (run lowC (T.drop i))) with
        | false => rw [hl] at he; simp at he
        | true =>
          rw [if_pos rfl]
          have hr := run_le lowC (T.drop i)
          rw [List.length_drop] at hr
          have h0 : 0 < run lowC (T.drop i) := by
            rcases Nat.eq_zero_or_pos (run lowC (T.drop i)) with h | h
            · rw [h, List.take_zero] at hl; exact absurd hl (by decide)
            · exact h
          exact ⟨by simp, by simp only; omega, by simp only; omega⟩
theorem Tryz.infoJW : (Tryz.prog.info? 70).map (fun i => (i.zero, i.size, i.bytes)) = some (some (.agg #[.int .i64 0, .string ⟨#[]⟩, .int .i64 0]), 3, 32) := by kernel_rfl
theorem Tryz.jmade_own (w : World) (base : Nat) (hb : base ≤ w.heap.size) : (w.alloc (.cells #[] 70)).ownsRow base 70 3 (.slice (some ⟨w.heap.size, 0, none⟩) 0 0) 0 [] := by
  obtain ⟨i, hi, hz, hs, hb'⟩ := info_parts Tryz.infoJW
  obtain ⟨w', h1, h2, -⟩ := run_make_own (P := Tryz.prog) w base 63 70 i _ 3 Tryz.underlying63 hi hz hs .i64 .i64 0 (by omega) (Nat.zero_le _) hb
  have h3 : (Instr.makeSlice 63 (.int .i64 0) (.int .i64 0)).run Tryz.prog w = .ok (.slice (some ⟨w.heap.size, 0, none⟩) 0 0) (w.alloc (.cells #[] 70)) := by
    have := run_make (P := Tryz.prog) w 63 70 i _ Tryz.underlying63 hi hz .i64 .i64 0 0 (by omega) (Int.le_refl _) (by rw [hb']; omega) (by omega)
    rw [hs, show (0 : Int).toNat * 3 = 0 from rfl, show ∀ z : Array Value, madeCells z 0 = #[] from fun z => by simp [madeCells]] at this
    exact this
  have h4 := h1.symm.trans h3
  injection h4 with _ h5
  rw [← h5]; exact h2
/-- the world with the fault's box -/
def Tryz.jbW (w : World) : World := w.alloc (.cells #[.int .i64 0, .int .i64 0, .int .i64 0, .int .i64 0] 30)
theorem Tryz.jb_size (w : World) : (Tryz.jbW w).heap.size = w.heap.size + 1 := by unfold Tryz.jbW; simp
theorem Tryz.jb_bel (w : World) : Below w.heap.size w (Tryz.jbW w) := (Below.refl _ _).alloc (Nat.le_refl _) _
theorem Tryz.jb_keeps {w wr : World} (h : Below (Tryz.jbW w).heap.size (Tryz.jbW w) wr) : wr.cell? ⟨w.heap.size, 0, none⟩ = some (.int .i64 0) ∧ wr.cell? ⟨w.heap.size, 1, none⟩ = some (.int .i64 0) ∧ wr.cell? ⟨w.heap.size, 2, none⟩ = some (.int .i64 0) ∧ wr.cell? ⟨w.heap.size, 3, none⟩ = some (.int .i64 0) ∧ (∀ o, wr.frozen? ⟨w.heap.size, o, none⟩ = false) ∧ w.heap.size < wr.heap.size := by
  have hs := Tryz.jb_size w
  have h0 := h.size
  have k0 : ∀ i u, ([.int .i64 0, .int .i64 0, .int .i64 0, .int .i64 0] : List Value)[i]? = some u → wr.cell? (Addr.add ⟨w.heap.size, 0, none⟩ i) = some u := fun i u hi => by
    have e := new_cells w [.int .i64 0, .int .i64 0, .int .i64 0, .int .i64 0] 30 i u hi
    rw [h.cell (World.block_lt_of_cell? _ _ e)]; exact e
  exact ⟨k0 0 _ rfl, k0 1 _ rfl, k0 2 _ rfl, k0 3 _ rfl, fun o => (h.frozen (by rw [hs]; show w.heap.size < _; omega)).trans (by unfold Tryz.jbW; rw [World.frozen?_alloc_at _ _ _ _ rfl]), by omega⟩
theorem Tryz.jb_onto {w wr w2 : World} (h : Below (Tryz.jbW w).heap.size (Tryz.jbW w) wr) (g : Below wr.heap.size wr w2) : Below (Tryz.jbW w).heap.size (Tryz.jbW w) w2 := h.trans (g.mono h.size)
theorem set4 {B b : Nat} {a w : World} {x1 x2 x3 x4 : Value} (h : Below B a w) (hb : B ≤ b) :
    Below B a ((((w.setCell ⟨b, 0, none⟩ x1).setCell ⟨b, 1, none⟩ x2).setCell ⟨b, 2, none⟩ x3).setCell ⟨b, 3, none⟩ x4) :=
  (((h.setCell hb _).setCell hb _).setCell hb _).setCell hb _
theorem jbad {w w' : World} {t : ByteArray} {R : List Wd × Nat × Nat} {e a : Nat} (hR : R = ([], e, a)) (he : e ≠ 0) {V : Value} (hV : faultV t (a : Nat) (e : Nat) = V) (hb : Below w.heap.size w w') :
    ∃ v, Ending.returned (.tuple #[.slice none 0 0, V]) = .returned (.tuple #[v, jfV t R]) ∧ InW w' R.1 v ∧ Below w.heap.size w w' := by
  subst hR hV
  refine ⟨.slice none 0 0, ?_, ?_, hb⟩
  · unfold jfV; rw [if_neg he]
  · exact ⟨none, ⟨0, 0, none⟩, 0, rfl, Nat.le_refl _, Nat.zero_le _, fun h => absurd h (by simp), fun i s h => by simp at h⟩
theorem Tryz.jb_low {w wr : World} (h : Below (Tryz.jbW w).heap.size (Tryz.jbW w) wr) : Below w.heap.size w wr := (Tryz.jb_bel w).trans (h.mono (by rw [Tryz.jb_size]; omega))
theorem jb_kept {w wr w9 : World} {ty : TypeId} {v : Value} {n : Nat} {xs : List Value} {x1 x2 x3 x4 : Value} (ho : wr.ownsRow (w.heap.size + 1) ty 3 v n xs) (h9 : w9 = (((wr.setCell ⟨w.heap.size, 0, none⟩ x1).setCell ⟨w.heap.size, 1, none⟩ x2).setCell ⟨w.heap.size, 2, none⟩ x3).setCell ⟨w.heap.size, 3, none⟩ x4) : w9.ownsRow w.heap.size ty 3 v n xs := by
  subst h9
  have h1 : wr.grownBy ((((wr.setCell ⟨w.heap.size, 0, none⟩ x1).setCell ⟨w.heap.size, 1, none⟩ x2).setCell ⟨w.heap.size, 2, none⟩ x3).setCell ⟨w.heap.size, 3, none⟩ x4) (some w.heap.size) := by
    refine ⟨rfl, rfl, rfl, by simp, fun k hk hne => ?_⟩
    rw [Below.heap_setCell _ _ _ _ (fun e => hne (by rw [e])), Below.heap_setCell _ _ _ _ (fun e => hne (by rw [e])), Below.heap_setCell _ _ _ _ (fun e => hne (by rw [e])), Below.heap_setCell _ _ _ _ (fun e => hne (by rw [e]))]
  exact World.ownsRow.mono (World.ownsRow.kept ho h1 (Or.inr (fun e => by have := ho.lt w.heap.size e; omega))) (base' := w.heap.size) (by omega)
theorem rd4 {w3 Z : World} {b : Nat} {x1 x2 x3 x4 y1 y2 y3 y4 : Value} (hlt : b < w3.heap.size) (b0 : w3.cell? ⟨b, 0, none⟩ = some y1) (b1 : w3.cell? ⟨b, 1, none⟩ = some y2) (b2 : w3.cell? ⟨b, 2, none⟩ = some y3) (b3 : w3.cell? ⟨b, 3, none⟩ = some y4)
    (h : Below ((((w3.setCell ⟨b, 0, none⟩ x1).setCell ⟨b, 1, none⟩ x2).setCell ⟨b, 2, none⟩ x3).setCell ⟨b, 3, none⟩ x4).heap.size ((((w3.setCell ⟨b, 0, none⟩ x1).setCell ⟨b, 1, none⟩ x2).setCell ⟨b, 2, none⟩ x3).setCell ⟨b, 3, none⟩ x4) Z) :
    Z.cell? ⟨b, 0, none⟩ = some x1 ∧ Z.cell? ⟨b, 1, none⟩ = some x2 ∧ Z.cell? ⟨b, 2, none⟩ = some x3 ∧ Z.cell? ⟨b, 3, none⟩ = some x4 := by
  have hs : ∀ o, (⟨b, o, none⟩ : Addr).block < ((((w3.setCell ⟨b, 0, none⟩ x1).setCell ⟨b, 1, none⟩ x2).setCell ⟨b, 2, none⟩ x3).setCell ⟨b, 3, none⟩ x4).heap.size := fun o => by simp; exact hlt
  refine ⟨?_, ?_, ?_, ?_⟩ <;> (rw [h.cell (hs _)]; simp [go_sem, b0, b1, b2, b3])
theorem jgood {w w' : World} {t : ByteArray} {R : List Wd × Nat × Nat} {ws : List Wd} {v : Value} {ty : TypeId} (hR : R = (ws, 0, 0)) (ho : w'.ownsRow w.heap.size ty 3 v ws.length (ws.flatMap wc)) (hb : Below w.heap.size w w') :
    ∃ v', Ending.returned (.tuple #[v, .agg #[.int .i64 0, .int .i64 0, .int .i64 0, .int .i64 0]]) = .returned (.tuple #[v', jfV t R]) ∧ InW w' R.1 v' ∧ Below w.heap.size w w' := by
  subst hR
  exact ⟨v, rfl, own_inw ho, hb⟩
theorem Tryz.jb_grown1 {w wr w9 : World} (h : Below (Tryz.jbW w).heap.size (Tryz.jbW w) wr) {e : TypeId} {v : Value} {n : Nat} {xs : List Value} (ho : wr.ownsRow (w.heap.size + 1) e 3 v n xs) (o : Obj) (hg : (wr.alloc o).grownBy w9 v.ownBlock) : Below (Tryz.jbW w).heap.size (Tryz.jbW w) w9 := by
  have hs := h.size
  refine (h.alloc hs _).grown hg (by simp; omega) (fun q hq => ?_)
  rw [Tryz.jb_size]; exact (ho.lt q hq).1
theorem size_two (w : World) (a b : Obj) : ((w.alloc a).alloc b).heap.size = w.heap.size + 1 + 1 := by simp
theorem Tryz.jb_grown {w wr w9 : World} (h : Below (Tryz.jbW w).heap.size (Tryz.jbW w) wr) {e : TypeId} {v : Value} {n : Nat} {xs : List Value} (ho : wr.ownsRow (w.heap.size + 1) e 3 v n xs) (o1 o2 o3 : Obj) (hg : (((wr.alloc o1).alloc o2).alloc o3).grownBy w9 v.ownBlock) : Below (Tryz.jbW w).heap.size (Tryz.jbW w) w9 := by
  have hs := h.size
  refine (((h.alloc hs _).alloc (by simp; omega) _).alloc (by simp; omega) _).grown hg (by simp; omega) (fun q hq => ?_)
  rw [Tryz.jb_size]; exact (ho.lt q hq).1
set_option maxRecDepth 100000 in
set_option maxHeartbeats 4000000 in
theorem Tryz.jcut_in (t : ByteArray) (w : World) (ht : t.size ≤ 65536) (hv : pos t.data.toList (vlk t.data.toList) = t.size) (hg : GlobU w) :
    Calls Tryz.prog 40 #[.string t] w (Tryz.JPost w t) := by
  have HZ := hid (size_list t)
  have HG := hid (hg.on (Tryz.jb_bel w))
  have HC := hid (show cutA t.data.toList = lx t.data.toList (t.data.toList.length + 1) 0 [] by
    unfold cutA; rw [if_neg (by rw [HZ.out]; omega), rv_yes _ (by rw [HZ.out]; exact hv), if_neg (by decide)])
  unfold Tryz.JPost
  rw [HC.out]
  obtain ⟨f0, r1, r2, r3, r4⟩ := lx_row (T := t.data.toList) (acc := []) t.data.toList.length 0 (t.data.toList.length + 1) (by omega) (by omega)
  rw [r1]
  obtain ⟨R, hR⟩ : ∃ R, lx t.data.toList f0 (0 + run blB (t.data.toList.drop 0)) [] = R := ⟨_, rfl⟩
  have HR := hid hR
  rw [hR]
  clear hR HC r1
  have CV := hid (fun X => letters_any t X)
  rw [hv] at CV
  clear hv
  have CB := hid (fun i X h => rowEnd_bl t i X (by omega) h)
  have CB0 := hid (CB.out 0 · (Nat.zero_le _))
  have CT := hid (fun i X h hb hg => tk_any t i X (by omega) h hb hg)
  obtain ⟨i1, hi', hz0', hz1', hz2'⟩ := info_parts Tryz.infoJW
  obtain ⟨n0, hn0⟩ : ∃ n0, 0 + run blB (t.data.toList.drop 0) = n0 := ⟨_, rfl⟩
  rw [hn0] at CB0 HR r2 r3 r4
  rw [HZ.out] at r3
  have HR2 := hid r2
  have HR4 := hid r4
  clear hn0 r2 r4
  go_enter Tryz.func40, Tryz.ntmps40
  go_wp2_with fail
  go_at_call 55
  refine (CV.out _).mono ?_
  rintro e w1 ⟨rfl, hb1⟩
  have HB1 : Hid (Below (Tryz.jbW w).heap.size (Tryz.jbW w) w1) := hb1
  clear hb1
  go_wp2_with fail
  go_at_call 56
  refine (CB0.out _).mono ?_
  rintro e w2 ⟨rfl, hw2⟩
  obtain rfl := hw2.symm
  clear hw2
  go_wp2_with fail
  have hs1 : w.heap.size + 1 ≤ w1.heap.size := by have := HB1.out.size; rw [Tryz.jb_size] at this; exact this
  go_loopw [5, 6] (fun v x wr => ∃ (i f : Nat) (acc : List Wd), i ≤ t.size ∧ x = .int .i64 i ∧ Hid (acc.length ≤ i) ∧ Hid (∀ b, t.data.toList[i]? = some b → blB b = false) ∧ Hid (wr.ownsRow (w.heap.size + 1) 70 3 v acc.length (acc.flatMap wc)) ∧ Hid (lx t.data.toList f i acc = R) ∧ Hid (t.data.toList.length < i + f) ∧ Hid (Below (Tryz.jbW w).heap.size (Tryz.jbW w) wr)) (fun _ x _ => t.size - (intOf x).toNat)
  case atStart => exact ⟨n0, f0, [], r3, rfl, Nat.zero_le _, HR4.out, Tryz.jmade_own _ _ hs1, HR.out, HR2.out, HB1.out.alloc HB1.out.size _⟩
  case round =>
    obtain ⟨i, f, acc, hit, rfl, HN, HI, HO, HL, HF, HB⟩ := hrel
    clear HR HR2 HR4 r3 hs1
    by_cases hlt : i < t.size
    · have HT := hid (list_at t i hlt)
      have HTL := hid (show i < t.data.toList.length by rw [HZ.out]; exact hlt)
      have hbl := HI.out _ HT.out
      have C := hid (fun X h => CT.out i X hlt hbl h)
      have HGo := hid (fun h => lw_good HT.out hbl h)
      have HWo := hid (fun h1 h2 h3 => lx_word (acc := acc) HF.out HTL.out h1 h2 h3)
      have HBd := hid (fun h => lx_bad (acc := acc) HF.out HTL.out h)
      obtain ⟨L, hL⟩ : ∃ L, lw t.data.toList i = L := ⟨_, rfl⟩
      rw [hL] at C HGo HWo HBd
      clear hL hbl
      obtain ⟨kd, tx, nx, er, ea⟩ := L
      simp only at HGo HWo HBd
      by_cases he : er = 0
      · subst he
        obtain ⟨g1, g2, g3⟩ := HGo.out rfl
        obtain ⟨f', h1, h2⟩ := HWo.out rfl g1 g2
        have HN1 := hid h1
        have HN2 := hid h2
        rw [HZ.out] at g3
        unfold twV at C
        simp only [if_true] at C
        clear HGo HWo HBd h1 h2 g1
        have HRow := lx_row (T := t.data.toList) (acc := acc ++ [⟨kd, tx, i⟩]) (t.data.toList.length - nx) nx f' (by rw [HZ.out]; omega) HN2.out
        obtain ⟨f2, r1, r2, r3, r4⟩ := HRow
        have HN3 := hid (HN1.out.trans r1)
        have HN4 := hid r2
        have HN5 := hid r4
        rw [HZ.out] at r3
        clear r1 r2 r4 HN1 HN2
        have CN := hid (fun X => CB.out nx X g3)
        have hrl : nx ≤ nx + run blB (t.data.toList.drop nx) := Nat.le_add_right _ _
        obtain ⟨n2, hn2⟩ : ∃ n2, nx + run blB (t.data.toList.drop nx) = n2 := ⟨_, rfl⟩
        rw [hn2] at CN HN3 HN4 HN5 r3 hrl
        clear hn2
        have hN : acc.length ≤ 65536 := Nat.le_trans HN.out (by omega)
        obtain ⟨m, hm⟩ : ∃ m, mkS tx = m := ⟨_, rfl⟩
        have HM := hid hm.symm
        rw [hm] at C
        clear hm
        go_wp2_with fail
        go_at_call 57
        refine (C.out _ (HG.out.on HB.out)).mono ?_
        rintro e w3 ⟨rfl, hb3⟩
        have HB3 := hid (Tryz.jb_onto HB.out hb3)
        have HO3 := hid (ownsRow_below HO.out hb3)
        have hws : w.heap.size + 1 ≤ w3.heap.size := by have := HB3.out.size; rw [Tryz.jb_size] at this; exact this
        clear hb3
        go_wp2_with (at_builtin; go_must (refine wpList_append_lies _ rfl _ _ _ rfl (w.heap.size + 1) 70 i1 (.agg #[.int .i64 0, .string ⟨#[]⟩, .int .i64 0]) 3 32 Tryz.underlying63 hi' hz0' hz1' hz2' rfl (by decide) _ _ _ rfl (((HO3.out.alloc _).alloc _).alloc _) ⟨w3.heap.size + 1 + 1, 0, none⟩ 1 1 (lc kd m i) rfl rfl (by have hnc := new_cells ((w3.alloc (.cells #[.int .i64 (kd : Int), .string m, .int .i64 (i : Int)] 70)).alloc (.cells #[.int .i64 0, .int .i64 0, .int .i64 0, .int .i64 0] 30)) (lc kd m i) 70; rw [size_two] at hnc; exact hnc) (lc_one _ _ _) (by decide) (by unfold maxLen; omega) (by omega) (by simp; omega) (w3.heap.size + 1 + 1 + 1) (by simp) ?_; intro g9 cap9 w9 hown9 hgr9 hat9 hlt9; have HB9 := hid (Tryz.jb_grown HB3.out HO3.out _ _ _ hgr9); have HO9 := hid (lc_own hown9 HM.out); clear hown9 hgr9 hat9 hlt9))
        go_at_call 56
        refine (CN.out _).mono ?_
        rintro e w4 ⟨rfl, hw4⟩
        obtain rfl := hw4.symm
        clear hw4
        go_wp2_with fail
        go_roundw
        case rel => exact ⟨n2, f2, acc ++ [(⟨kd, tx, i⟩ : Wd)], r3, rfl, (by show _ ≤ _; rw [List.length_append]; have := HN.out; simp only [List.length_cons, List.length_nil]; omega), HN5.out, HO9.out, HN3.out.symm.trans HL.out, HN4.out, HB9.out⟩
        case measure => simp [intOf]; omega
      · have HE := hid ((HBd.out he).symm.trans HL.out)
        unfold twV at C
        simp only [he, if_false] at C
        unfold faultV at C
        have HV : Hid (faultV t (ea : Nat) (er : Nat) = .agg #[.int .i64 (er : Nat), .int .i64 (clN t.size (ea : Nat)), .int .i64 (ofL t (ea : Nat)), .int .i64 (ofC t (ea : Nat))]) := rfl
        obtain ⟨f1, h1⟩ : ∃ f1, clN t.size (ea : Nat) = f1 := ⟨_, rfl⟩
        obtain ⟨f2, h2⟩ : ∃ f2, ofL t (ea : Nat) = f2 := ⟨_, rfl⟩
        obtain ⟨f3, h3⟩ : ∃ f3, ofC t (ea : Nat) = f3 := ⟨_, rfl⟩
        rw [h1, h2, h3] at C HV
        clear h1 h2 h3 HGo HWo HBd
        have g1 : ((er : Int) != 0) = true := by rw [bne_iff_ne]; omega
        have g2 : ((er : Int) == 0) = false := by rw [beq_eq_false_iff_ne]; omega
        have HEr := hid he
        clear he
        go_wp2_with fail
        go_at_call 57
        refine (C.out _ (HG.out.on HB.out)).mono ?_
        rintro e w3 ⟨rfl, hb3⟩
        have HB3 := hid (Tryz.jb_onto HB.out hb3)
        have hws : w.heap.size + 1 ≤ w3.heap.size := by have := HB3.out.size; rw [Tryz.jb_size] at this; exact this
        clear hb3
        obtain ⟨b0, b1, b2, b3, b4, b5⟩ := Tryz.jb_keeps HB3.out
        go_wp2_with fail
        go_region
        obtain ⟨k0, k1, k2, k3⟩ := rd4 (x1 := .int .i64 (er : Int)) (x2 := .int .i64 (f1 : Int)) (x3 := .int .i64 (f2 : Int)) (x4 := .int .i64 (f3 : Int)) b5 b0 b1 b2 b3 (((((Below.refl _ _).alloc (Nat.le_refl _) (.cells #[.int .i64 0, .string ⟨#[]⟩, .int .i64 0] 70)).alloc (by simp) (.cells #[.int .i64 (er : Int), .int .i64 (f1 : Int), .int .i64 (f2 : Int), .int .i64 (f3 : Int)] 30))).drew)
        all_goals
          go_wp2_with fail
          refine bodyPost_ret (v := .tuple #[.slice none 0 0, .agg #[.int .i64 (er : Nat), .int .i64 f1, .int .i64 f2, .int .i64 f3]]) (by simp [results, Tryz.results40, go_sem, k0, k1, k2, k3]) rfl ?_
          exact jbad HE.out.symm HEr.out HV.out (((set4 (Tryz.jb_low HB3.out) (Nat.le_refl _)).alloc (by simp; omega) _).alloc (by simp; omega) _).drew
    · have hi : i = t.size := by omega
      subst hi
      have HE := hid ((lx_end (acc := acc) HF.out (by rw [HZ.out]; exact Nat.le_refl _) (by rw [HZ.out]; exact Nat.le_refl _)).symm.trans HL.out)
      have hN : acc.length ≤ 65536 := Nat.le_trans HN.out ht
      have hws : w.heap.size + 1 ≤ wr.heap.size := by have := HB.out.size; rw [Tryz.jb_size] at this; exact this
      clear hlt hit
      go_wp2_with (at_builtin; go_must (refine wpList_append_lies _ rfl _ _ _ rfl (w.heap.size + 1) 70 i1 (.agg #[.int .i64 0, .string ⟨#[]⟩, .int .i64 0]) 3 32 Tryz.underlying63 hi' hz0' hz1' hz2' rfl (by decide) _ _ _ rfl (HO.out.alloc _) ⟨wr.heap.size, 0, none⟩ 1 1 (lc 0 ⟨#[]⟩ t.size) rfl rfl (new_cells wr _ 70) (lc_one _ _ _) (by decide) (by unfold maxLen; omega) (by omega) (by simp; omega) (wr.heap.size + 1) (by simp) ?_; intro g9 cap9 w9 hown9 hgr9 hat9 hlt9; have HB9 := hid (Tryz.jb_grown1 HB.out HO.out _ hgr9); have HO9 := hid (lc_own (tx := []) hown9 rfl); clear hown9 hgr9 hat9 hlt9; obtain ⟨b0, b1, b2, b3, b4, b5⟩ := Tryz.jb_keeps HB9.out; go_wp2_with fail))
      refine bodyPost_ret (v := .tuple #[.slice (some ⟨g9, 0, none⟩) (acc.length + 1) cap9, .agg #[.int .i64 0, .int .i64 0, .int .i64 0, .int .i64 0]]) (by simp [results, Tryz.results40, go_sem, b0, b1, b2, b3]) rfl ?_
      rw [HZ.out] at HE
      exact jgood HE.out.symm (jb_kept HO9.out rfl) (set4 (Tryz.jb_low HB9.out) (Nat.le_refl _))
end Go.Proofs.YtkhjahpkbjafaaaGreatDoor
namespace Go.Proofs.YtkhjahpkbjafaaaGreatDoor
open Go.RowKit

theorem vlk_in (l : List UInt8) : pos l (vlk l) ≤ l.length := by
  obtain ⟨-, h2, -, -⟩ := least_has (vgo l) l.length 0 (by
    unfold vgo; rw [decide_eq_false (by have := pos_ge l (0 + l.length); omega)]; rfl)
  have e : vlk l = least (vgo l) l.length 0 := rfl
  rw [← e] at h2
  cases hk : vlk l with
  | zero => exact Nat.zero_le _
  | succ k =>
    have h3 := h2 k (Nat.zero_le _) (by omega)
    unfold vgo at h3
    rw [Bool.and_eq_true] at h3
    exact pos_next l k (of_decide_eq_true h3.1)
set_option maxRecDepth 100000 in
set_option maxHeartbeats 2000000 in
theorem Tryz.jcut_any (t : ByteArray) (w : World) (ht : t.size ≤ 1000000) (hg : GlobU w) :
    Calls Tryz.prog 40 #[.string t] w (Tryz.JPost w t) := by
  have HZ := hid (size_list t)
  have CF := hid (fun a e X => fault_any t a e X ht)
  by_cases h1 : t.size ≤ 65536
  · by_cases hv : pos t.data.toList (vlk t.data.toList) = t.size
    · exact Tryz.jcut_in t w h1 hv hg
    · have hp : pos t.data.toList (vlk t.data.toList) < t.size := by
        have := vlk_in t.data.toList
        rw [HZ.out] at this; omega
      have CV := hid (fun X => letters_any t X)
      have HE := hid (show cutA t.data.toList = ([], 3, pos t.data.toList (vlk t.data.toList)) by
        unfold cutA; rw [if_neg (by rw [HZ.out]; omega), rv_no _ (by rw [HZ.out]; exact hv), if_pos (by omega), Int.toNat_natCast])
      unfold Tryz.JPost
      rw [HE.out]
      obtain ⟨p, hpp⟩ : ∃ p, pos t.data.toList (vlk t.data.toList) = p := ⟨_, rfl⟩
      rw [hpp] at CV hp ⊢
      clear hpp hv HE
      have C := hid (fun X => CF.out (p : Int) 3 X)
      unfold faultV at C
      have HV : Hid (faultV t (p : Nat) ((3 : Nat) : Int) = .agg #[.int .i64 3, .int .i64 (clN t.size (p : Nat)), .int .i64 (ofL t (p : Nat)), .int .i64 (ofC t (p : Nat))]) := rfl
      obtain ⟨f1, e1⟩ : ∃ f1, clN t.size (p : Nat) = f1 := ⟨_, rfl⟩
      obtain ⟨f2, e2⟩ : ∃ f2, ofL t (p : Nat) = f2 := ⟨_, rfl⟩
      obtain ⟨f3, e3⟩ : ∃ f3, ofC t (p : Nat) = f3 := ⟨_, rfl⟩
      rw [e1, e2, e3] at C HV
      clear e1 e2 e3 CF
      go_enter Tryz.func40, Tryz.ntmps40
      go_wp2_with fail
      go_at_call 55
      refine (CV.out _).mono ?_
      rintro e w1 ⟨rfl, hb1⟩
      have HB1 : Hid (Below (Tryz.jbW w).heap.size (Tryz.jbW w) w1) := hb1
      clear hb1
      go_wp2_with fail
      go_at_call 54
      refine (C.out _).mono ?_
      rintro e w2 ⟨rfl, hb2⟩
      have HB2 := hid (Tryz.jb_onto HB1.out hb2)
      clear hb2
      obtain ⟨b0, b1, b2, b3, b4, b5⟩ := Tryz.jb_keeps HB2.out
      go_wp2_with fail
      refine bodyPost_ret (v := .tuple #[.slice none 0 0, .agg #[.int .i64 3, .int .i64 f1, .int .i64 f2, .int .i64 f3]]) (by simp [results, Tryz.results40, go_sem, b0, b1, b2, b3]) rfl ?_
      exact jbad rfl (by decide) HV.out (set4 (Tryz.jb_low HB2.out) (Nat.le_refl _))
  · have HE := hid (show cutA t.data.toList = ([], 2, t.size) by unfold cutA; rw [if_pos (by rw [HZ.out]; omega), HZ.out])
    unfold Tryz.JPost
    rw [HE.out]
    clear HE
    have C := hid (fun X => CF.out (t.size : Int) 2 X)
    unfold faultV at C
    have HV : Hid (faultV t (t.size : Nat) ((2 : Nat) : Int) = .agg #[.int .i64 2, .int .i64 (clN t.size (t.size : Nat)), .int .i64 (ofL t (t.size : Nat)), .int .i64 (ofC t (t.size : Nat))]) := rfl
    obtain ⟨f1, e1⟩ : ∃ f1, clN t.size (t.size : Nat) = f1 := ⟨_, rfl⟩
    obtain ⟨f2, e2⟩ : ∃ f2, ofL t (t.size : Nat) = f2 := ⟨_, rfl⟩
    obtain ⟨f3, e3⟩ : ∃ f3, ofC t (t.size : Nat) = f3 := ⟨_, rfl⟩
    rw [e1, e2, e3] at C HV
    clear e1 e2 e3 CF
    have h1' : 65536 < t.size := by omega
    go_enter Tryz.func40, Tryz.ntmps40
    go_wp2_with fail
    go_at_call 54
    refine (C.out _).mono ?_
    rintro e w2 ⟨rfl, hb2⟩
    have HB2 : Hid (Below (Tryz.jbW w).heap.size (Tryz.jbW w) w2) := hb2
    clear hb2
    obtain ⟨b0, b1, b2, b3, b4, b5⟩ := Tryz.jb_keeps HB2.out
    go_wp2_with fail
    refine bodyPost_ret (v := .tuple #[.slice none 0 0, .agg #[.int .i64 2, .int .i64 f1, .int .i64 f2, .int .i64 f3]]) (by simp [results, Tryz.results40, go_sem, b0, b1, b2, b3]) rfl ?_
    exact jbad rfl (by decide) HV.out (set4 (Tryz.jb_low HB2.out) (Nat.le_refl _))
theorem Tryz.jhas : Tryz.JHas := fun t w ht hg => Tryz.jcut_any t w ht hg
end Go.Proofs.YtkhjahpkbjafaaaGreatDoor
