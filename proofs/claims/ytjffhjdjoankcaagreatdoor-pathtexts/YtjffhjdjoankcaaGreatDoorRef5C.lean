/- The document's side: one step of a path's text. -/
import Derived.Test.YtjffhjdjoankcaaGreatDoorRef5B
namespace Go.Proofs.YtjffhjdjoankcaaGreatDoor
open Go.RowKit

/-- a key's text, read -/
def dk : List UInt8 → Option (List UInt8)
  | [] => some []
  | [b] => if b = 126 then none else some [b]
  | b :: c :: r => if b = 126 then (if c = 48 then (dk r).map (126 :: ·) else if c = 49 then (dk r).map (47 :: ·) else none) else (dk (c :: r)).map (b :: ·)
theorem dk_plain {b : UInt8} (r : List UInt8) (h : ¬ b = 126) : dk (b :: r) = (dk r).map (b :: ·) := by
  cases r with
  | nil => simp [dk, h]
  | cons c r => rw [dk, if_neg h]
theorem dk_esc : ∀ k : List UInt8, dk (esc k) = some k
  | [] => rfl
  | b :: l => by
    have ih := dk_esc l
    have e : esc (b :: l) = escB b ++ esc l := rfl
    rw [e]
    unfold escB
    by_cases h : b = 126
    · rw [if_pos h]
      show dk (126 :: 48 :: esc l) = _
      rw [dk, if_pos rfl, if_pos rfl, ih, h]; rfl
    · rw [if_neg h]
      by_cases h7 : b = 47
      · rw [if_pos h7]
        show dk (126 :: 49 :: esc l) = _
        rw [dk, if_pos rfl, if_neg (by decide), if_pos rfl, ih, h7]; rfl
      · rw [if_neg h7]
        show dk (b :: esc l) = _
        rw [dk_plain _ h, ih]; rfl
def step5 (l : List UInt8) : Option PStep :=
  if digB l = true then (if l.length ≤ 10 ∧ dv 0 l ≤ 1000000000 then some ⟨⟨#[]⟩, dv 0 l, true⟩ else none)
  else (dk (Lib.trimPrefix l [126, 107])).map fun k => ⟨mkS k, 0, false⟩
theorem step5_frm {l : List UInt8} {s : PStep} (h : step5 l = some s) : Frm s := by
  unfold step5 at h
  split at h
  · split at h
    · rename_i hc
      injection h with h
      subst h
      exact Or.inl ⟨rfl, rfl, by simp, by simp; omega⟩
    · cases h
  · obtain ⟨k, -, rfl⟩ := Option.map_eq_some_iff.1 h
    exact Or.inr ⟨rfl, rfl⟩
theorem dd_len : ∀ (n u : Nat), u < 10 ^ (n + 1) → (Lib.decDigits u).length ≤ n + 1
  | 0, u, h => by rw [Lib.decDigits, dif_pos (by omega)]; simp
  | n + 1, u, h => by
    rw [Lib.decDigits]
    split
    · simp
    · have := dd_len n (u / 10) (by rw [Nat.div_lt_iff_lt_mul (by omega)]; rw [Nat.pow_succ] at h; exact h)
      simp; omega
theorem step5_text {s : PStep} (h : Frm s) : step5 (stepT s) = some s := by
  obtain ⟨key, a, pl⟩ := s
  rcases h with ⟨hp, hk, h0, h1⟩ | ⟨hp, ha⟩
  · simp only at hp hk h0 h1
    subst hp hk
    obtain ⟨u, rfl⟩ : ∃ u : Nat, a = u := ⟨a.toNat, by omega⟩
    have e : stepT ⟨⟨#[]⟩, (u : Int), true⟩ = Lib.decDigits u := by unfold stepT; rw [if_pos rfl, Lib.itoa_nonneg]
    have hl := dd_len 9 u (by omega)
    rw [e]
    unfold step5
    rw [if_pos (dd_dig u), dd_dv, if_pos ⟨hl, by omega⟩]
  · simp only at hp ha
    subst hp ha
    have e : stepT ⟨key, 0, false⟩ = keyT key.data.toList := rfl
    rw [e]
    unfold step5
    rw [if_neg (by rw [key_dig]; decide), key_trim, dk_esc]
    simp only [Option.map_some]
    rw [← mkS_of key _ rfl]
theorem dv_lt : ∀ (l : List UInt8) (acc : Nat), (∀ b ∈ l, b.toNat ≤ 57) → dv acc l < (acc + 1) * 10 ^ l.length
  | [], acc, _ => by simp [dv]
  | c :: r, acc, h => by
    have h1 := h c (by simp)
    have ih := dv_lt r (acc * 10 + (c.toNat - 48)) (fun b hb => h b (by simp [hb]))
    rw [dv_cons, List.length_cons, Nat.pow_succ]
    refine Nat.lt_of_lt_of_le ih ?_
    rw [Nat.mul_comm (10 ^ r.length) 10, ← Nat.mul_assoc]
    exact Nat.mul_le_mul_right _ (by omega)
theorem dv_small (n : Nat) (l : List UInt8) (hl : l.length ≤ n) (hb : ∀ b ∈ l, b.toNat ≤ 57) : dv 0 l < 10 ^ n := by
  have h := dv_lt l 0 hb
  rw [Nat.zero_add, Nat.one_mul] at h
  exact Nat.lt_of_lt_of_le h (Nat.pow_le_pow_right (by omega) hl)
theorem dig_le {s : ByteArray} (h : digB s.data.toList = true) (j : Nat) (hj : j < s.size) : 48 ≤ s[j].toNat ∧ s[j].toNat ≤ 57 := by
  unfold digB at h
  rw [Bool.and_eq_true] at h
  have hm : s[j] ∈ s.data.toList := by
    have : s.data.toList[j]'(by rw [size_list]; exact hj) = s[j] := rfl
    rw [← this]; exact List.getElem_mem _
  have := List.all_eq_true.1 h.2 _ hm
  simpa using this
theorem dv_take {s : ByteArray} (h : digB s.data.toList = true) (hl : s.size ≤ 10) (j : Nat) : dv 0 (s.data.toList.take j) < 10000000000 := by
  refine dv_small 10 _ (by rw [List.length_take, size_list]; omega) (fun b hb => ?_)
  unfold digB at h
  rw [Bool.and_eq_true] at h
  have := List.all_eq_true.1 h.2 _ (List.mem_of_mem_take hb)
  simp at this
  exact this.2
def StepPost (l : List UInt8) (e : Ending) : Prop := ∃ (st : PStep) (ok : Bool), e = .returned (.tuple #[pv st, .bool ok]) ∧ (if ok = true then step5 l = some st else step5 l = none)
set_option maxRecDepth 100000 in
set_option maxHeartbeats 2000000 in
theorem step5_any (s : ByteArray) (w : World) (hs : s.size ≤ 1000000000) :
    Calls Tryz.prog 47 #[.string s] w fun e w' => StepPost s.data.toList e ∧ Below w.heap.size w w' := by
  have HZ := hid (size_list s)
  have CD := hid (fun X => dig5_any s X (by unfold maxLen; omega))
  have hzc := Row.new w #[.string ⟨#[]⟩, .int .i64 0, .bool false] 79
  go_enter Tryz.func47, Tryz.ntmps47
  go_wp2_with fail
  go_at_call 74
  refine (CD.out _).mono ?_
  rintro e w' ⟨rfl, hw'⟩
  obtain rfl := hw'.symm
  cases hd : digB s.data.toList with
  | true =>
    by_cases h10 : 10 < s.size
    · have HN := hid (show step5 s.data.toList = none by unfold step5; rw [if_pos hd, if_neg (by rw [HZ.out]; omega)])
      clear hzc
      go_wp2_with fail
      refine bodyPost_ret (v := .tuple #[pv ⟨⟨#[]⟩, 0, false⟩, .bool false]) (by simp [results, Tryz.results47, go_sem, pv]) rfl ⟨⟨_, false, rfl, HN.out⟩, valloc_bel (Below.refl _ _) _⟩
    · have h10' : s.size ≤ 10 := by omega
      have HDV := hid (dv_take hd h10')
      have HLE := hid (dig_le hd)
      clear hzc
      go_wp2_with fail
      go_loop [4, 5] (fun v i => ∃ (j n : Nat), j ≤ s.size ∧ i = .int .i64 j ∧ v = .int .i64 n ∧ n < 10000000000 ∧ Hid (n = dv 0 (s.data.toList.take j))) (fun _ i => s.size - (intOf i).toNat)
      case atStart => exact ⟨0, 0, Nat.zero_le _, rfl, rfl, by omega, hid rfl⟩
      case round =>
        obtain ⟨j, n, hj, rfl, rfl, hn, HN⟩ := hrel
        by_cases hlt : j < s.size
        · obtain ⟨b1, b2⟩ := HLE.out j hlt
          have HX := hid (show dv 0 (s.data.toList.take (j + 1)) = n * 10 + (s[j].toNat - 48) by rw [take_snocL s j hlt, dv_snoc, ← HN.out])
          have hn2 : n * 10 + (s[j].toNat - 48) < 10000000000 := by rw [← HX.out]; exact HDV.out _
          clear HN
          go_wp2_with fail
          go_round
          case rel => exact ⟨j + 1, n * 10 + (s[j].toNat - 48), hlt, by go_num, val_int (by omega), hn2, hid HX.out.symm⟩
          case measure => simp [intOf]; omega
        · have HE := hid (show n = dv 0 s.data.toList by rw [HN.out, List.take_of_length_le (by rw [HZ.out]; omega)])
          clear HN
          by_cases hv : n ≤ 1000000000
          · have HR := hid (show step5 s.data.toList = some ⟨⟨#[]⟩, (n : Int), true⟩ by unfold step5; rw [if_pos hd, if_pos ⟨by rw [HZ.out]; omega, by rw [← HE.out]; exact hv⟩, ← HE.out])
            clear HE
            go_wp2_with fail
            refine bodyPost_ret (v := .tuple #[pv ⟨⟨#[]⟩, (n : Int), true⟩, .bool true]) (by simp [results, Tryz.results47, go_sem, pv]; omega) rfl ⟨⟨_, true, rfl, HR.out⟩, valloc_bel (Below.refl _ _) _⟩
          · have HR := hid (show step5 s.data.toList = none by unfold step5; rw [if_pos hd, if_neg (by rw [← HE.out]; omega)])
            clear HE
            go_wp2_with fail
            refine bodyPost_ret (v := .tuple #[pv ⟨⟨#[]⟩, (n : Int), true⟩, .bool false]) (by simp [results, Tryz.results47, go_sem, pv]; omega) rfl ⟨⟨_, false, rfl, HR.out⟩, valloc_bel (Below.refl _ _) _⟩
  | false =>
    have HS5 := hid (show step5 s.data.toList = (dk (Lib.trimPrefix s.data.toList [126, 107])).map fun k => ⟨mkS k, 0, false⟩ by unfold step5; rw [if_neg (by rw [hd]; decide)])
    clear hd hzc
    by_cases h1 : 1 < s.size
    · obtain ⟨m, hm⟩ : ∃ m, s.extract 0 2 = m := ⟨_, rfl⟩
      have hpre := pre_two s m h1 hm
      cases hp : Lib.hasPrefix s.data.toList [126, 107] with
      | true =>
        rw [hp] at hpre
        have HTR0 := hid (show (s.extract 2 s.size).data.toList = Lib.trimPrefix s.data.toList [126, 107] by
          unfold Lib.trimPrefix
          rw [if_pos hp, Lib.extract_to_end]; rfl)
        have hus : (s.extract 2 s.size).size ≤ 1000000000 := by simp; omega
        obtain ⟨u, hu⟩ : ∃ u, s.extract 2 s.size = u := ⟨_, rfl⟩
        rw [hu] at HTR0 hus
        have HTR := HTR0
        clear HTR0 hp
        go_wp2_with fail
        go_loop [6, 7] (fun v i => ∃ (j : Nat) (A : ByteArray) (acc : List UInt8), j ≤ u.size ∧ i = .int .i64 j ∧ v = .string A ∧ A.size ≤ j ∧ Hid (A = mkS acc) ∧ Hid (dk u.data.toList = (dk (u.data.toList.drop j)).map (acc ++ ·))) (fun _ i => u.size - (intOf i).toNat)
        case atStart => exact ⟨0, ⟨#[]⟩, [], Nat.zero_le _, rfl, rfl, Nat.zero_le _, hid rfl, hid (by simp)⟩
        case round =>
          obtain ⟨j, A, acc, hj, rfl, rfl, hA, HA, HD⟩ := hrel
          by_cases hlt : j < u.size
          · have hdr : u.data.toList.drop j = u[j] :: u.data.toList.drop (j + 1) := List.drop_eq_getElem_cons (by rw [size_list]; exact hlt)
            by_cases h1 : u[j] = 126
            · have hb : u[j].toNat = 126 := by rw [h1]; rfl
              by_cases hl2 : j + 1 < u.size
              · have hdr2 : u.data.toList.drop (j + 1) = u[j + 1] :: u.data.toList.drop (j + 1 + 1) := List.drop_eq_getElem_cons (by rw [size_list]; exact hl2)
                by_cases h48 : u[j + 1] = 48
                · have hc : u[j + 1].toNat = 48 := by rw [h48]; rfl
                  have HN : Hid (dk u.data.toList = (dk (u.data.toList.drop (j + 2))).map ((acc ++ [126]) ++ ·)) := hid (by
                    rw [HD.out, hdr, hdr2, dk, if_pos h1, if_pos h48, Option.map_map]
                    congr 1
                    funext x; simp)
                  have HX := hid (show A ++ ⟨#[126]⟩ = mkS (acc ++ [126]) by rw [HA.out, ← app_mkS]; rfl)
                  clear HD HA hdr hdr2 h1 h48
                  have hl3 : ¬ j + 1 = u.size := by omega
                  go_wp2_with fail
                  go_round
                  case rel => exact ⟨j + 2, A ++ ⟨#[126]⟩, acc ++ [126], hl2, by go_num, rfl, by rw [ByteArray.size_append]; show A.size + 1 ≤ _; omega, HX, HN⟩
                  case measure => simp [intOf]; omega
                · have hc0 : ¬ u[j + 1].toNat = 48 := fun h => h48 (UInt8.toNat_inj.1 h)
                  by_cases h49 : u[j + 1] = 49
                  · have hc : u[j + 1].toNat = 49 := by rw [h49]; rfl
                    have HN : Hid (dk u.data.toList = (dk (u.data.toList.drop (j + 2))).map ((acc ++ [47]) ++ ·)) := hid (by
                      rw [HD.out, hdr, hdr2, dk, if_pos h1, if_neg h48, if_pos h49, Option.map_map]
                      congr 1
                      funext x; simp)
                    have HX := hid (show A ++ ⟨#[47]⟩ = mkS (acc ++ [47]) by rw [HA.out, ← app_mkS]; rfl)
                    clear HD HA hdr hdr2 h1 h48 h49
                    have hl3 : ¬ j + 1 = u.size := by omega
                    go_wp2_with fail
                    go_round
                    case rel => exact ⟨j + 2, A ++ ⟨#[47]⟩, acc ++ [47], hl2, by go_num, rfl, by rw [ByteArray.size_append]; show A.size + 1 ≤ _; omega, HX, HN⟩
                    case measure => simp [intOf]; omega
                  · have hc1 : ¬ u[j + 1].toNat = 49 := fun h => h49 (UInt8.toNat_inj.1 h)
                    have HR := hid (show step5 s.data.toList = none by rw [HS5.out, ← HTR.out, HD.out, hdr, hdr2, dk, if_pos h1, if_neg h48, if_neg h49]; rfl)
                    clear HD HA hdr hdr2 h1 h48 h49 HS5
                    have hl3 : ¬ j + 1 = u.size := by omega
                    have n0 : ((u[j + 1].toNat : Int) != 48) = true := by simp; omega
                    have n1 : ((u[j + 1].toNat : Int) != 49) = true := by simp; omega
                    go_wp2_with fail
                    refine bodyPost_ret (v := .tuple #[pv ⟨⟨#[]⟩, 0, false⟩, .bool false]) (by simp [results, Tryz.results47, go_sem, pv]) rfl ⟨⟨_, false, rfl, HR.out⟩, valloc_bel (Below.refl _ _) _⟩
              · have hje : j + 1 = u.size := by omega
                have HR := hid (show step5 s.data.toList = none by rw [HS5.out, ← HTR.out, HD.out, hdr, List.drop_eq_nil_of_le (by rw [size_list]; omega), dk, if_pos h1]; rfl)
                clear HD HA hdr h1 HS5
                go_wp2_with fail
                refine bodyPost_ret (v := .tuple #[pv ⟨⟨#[]⟩, 0, false⟩, .bool false]) (by simp [results, Tryz.results47, go_sem, pv]) rfl ⟨⟨_, false, rfl, HR.out⟩, valloc_bel (Below.refl _ _) _⟩
            · have hb : ¬ u[j].toNat = 126 := fun h => h1 (UInt8.toNat_inj.1 h)
              have hb2 : ((u[j].toNat : Int) != 126) = true := by simp; omega
              have HN : Hid (dk u.data.toList = (dk (u.data.toList.drop (j + 1))).map ((acc ++ [u[j]]) ++ ·)) := hid (by
                rw [HD.out, hdr, dk_plain _ h1, Option.map_map]
                congr 1
                funext x; simp)
              have HX := hid (show A ++ u.extract j (j + 1) = mkS (acc ++ [u[j]]) by
                rw [HA.out, ← app_mkS]
                congr 1
                refine mkS_of _ _ ?_
                rw [Lib.extract_data, show j + 1 - j = 1 by omega, hdr]
                rfl)
              have hms : (u.extract j (j + 1)).size = 1 := by simp; omega
              clear HD HA hdr h1
              generalize hm : u.extract j (j + 1) = m at HX hms
              go_wp2_with fail
              go_round
              case rel => exact ⟨j + 1, A ++ m, acc ++ [u[j]], hlt, by go_num, rfl, by rw [ByteArray.size_append]; omega, HX, HN⟩
              case measure => simp [intOf]; omega
          · have HR := hid (show step5 s.data.toList = some ⟨A, 0, false⟩ by
              rw [HS5.out, ← HTR.out, HD.out, List.drop_eq_nil_of_le (by rw [size_list]; omega)]
              simp only [dk, Option.map_some, List.append_nil]
              rw [← HA.out])
            clear HD HA HS5
            go_wp2_with fail
            refine bodyPost_ret (v := .tuple #[pv ⟨A, 0, false⟩, .bool true]) (by simp [results, Tryz.results47, go_sem, pv]) rfl ⟨⟨_, true, rfl, HR.out⟩, valloc_bel (Below.refl _ _) _⟩
      | false =>
        rw [hp] at hpre
        have HTR := hid (show s.data.toList = Lib.trimPrefix s.data.toList [126, 107] by
          unfold Lib.trimPrefix
          rw [if_neg (by rw [hp]; decide)])
        clear hp
        go_wp2_with fail
        go_loop [6, 7] (fun v i => ∃ (j : Nat) (A : ByteArray) (acc : List UInt8), j ≤ s.size ∧ i = .int .i64 j ∧ v = .string A ∧ A.size ≤ j ∧ Hid (A = mkS acc) ∧ Hid (dk s.data.toList = (dk (s.data.toList.drop j)).map (acc ++ ·))) (fun _ i => s.size - (intOf i).toNat)
        case atStart => exact ⟨0, ⟨#[]⟩, [], Nat.zero_le _, rfl, rfl, Nat.zero_le _, hid rfl, hid (by simp)⟩
        case round =>
          obtain ⟨j, A, acc, hj, rfl, rfl, hA, HA, HD⟩ := hrel
          by_cases hlt : j < s.size
          · have hdr : s.data.toList.drop j = s[j] :: s.data.toList.drop (j + 1) := List.drop_eq_getElem_cons (by rw [size_list]; exact hlt)
            by_cases h1 : s[j] = 126
            · have hb : s[j].toNat = 126 := by rw [h1]; rfl
              by_cases hl2 : j + 1 < s.size
              · have hdr2 : s.data.toList.drop (j + 1) = s[j + 1] :: s.data.toList.drop (j + 1 + 1) := List.drop_eq_getElem_cons (by rw [size_list]; exact hl2)
                by_cases h48 : s[j + 1] = 48
                · have hc : s[j + 1].toNat = 48 := by rw [h48]; rfl
                  have HN : Hid (dk s.data.toList = (dk (s.data.toList.drop (j + 2))).map ((acc ++ [126]) ++ ·)) := hid (by
                    rw [HD.out, hdr, hdr2, dk, if_pos h1, if_pos h48, Option.map_map]
                    congr 1
                    funext x; simp)
                  have HX := hid (show A ++ ⟨#[126]⟩ = mkS (acc ++ [126]) by rw [HA.out, ← app_mkS]; rfl)
                  clear HD HA hdr hdr2 h1 h48
                  have hl3 : ¬ j + 1 = s.size := by omega
                  go_wp2_with fail
                  go_round
                  case rel => exact ⟨j + 2, A ++ ⟨#[126]⟩, acc ++ [126], hl2, by go_num, rfl, by rw [ByteArray.size_append]; show A.size + 1 ≤ _; omega, HX, HN⟩
                  case measure => simp [intOf]; omega
                · have hc0 : ¬ s[j + 1].toNat = 48 := fun h => h48 (UInt8.toNat_inj.1 h)
                  by_cases h49 : s[j + 1] = 49
                  · have hc : s[j + 1].toNat = 49 := by rw [h49]; rfl
                    have HN : Hid (dk s.data.toList = (dk (s.data.toList.drop (j + 2))).map ((acc ++ [47]) ++ ·)) := hid (by
                      rw [HD.out, hdr, hdr2, dk, if_pos h1, if_neg h48, if_pos h49, Option.map_map]
                      congr 1
                      funext x; simp)
                    have HX := hid (show A ++ ⟨#[47]⟩ = mkS (acc ++ [47]) by rw [HA.out, ← app_mkS]; rfl)
                    clear HD HA hdr hdr2 h1 h48 h49
                    have hl3 : ¬ j + 1 = s.size := by omega
                    go_wp2_with fail
                    go_round
                    case rel => exact ⟨j + 2, A ++ ⟨#[47]⟩, acc ++ [47], hl2, by go_num, rfl, by rw [ByteArray.size_append]; show A.size + 1 ≤ _; omega, HX, HN⟩
                    case measure => simp [intOf]; omega
                  · have hc1 : ¬ s[j + 1].toNat = 49 := fun h => h49 (UInt8.toNat_inj.1 h)
                    have HR := hid (show step5 s.data.toList = none by rw [HS5.out, ← HTR.out, HD.out, hdr, hdr2, dk, if_pos h1, if_neg h48, if_neg h49]; rfl)
                    clear HD HA hdr hdr2 h1 h48 h49 HS5
                    have hl3 : ¬ j + 1 = s.size := by omega
                    have n0 : ((s[j + 1].toNat : Int) != 48) = true := by simp; omega
                    have n1 : ((s[j + 1].toNat : Int) != 49) = true := by simp; omega
                    go_wp2_with fail
                    refine bodyPost_ret (v := .tuple #[pv ⟨⟨#[]⟩, 0, false⟩, .bool false]) (by simp [results, Tryz.results47, go_sem, pv]) rfl ⟨⟨_, false, rfl, HR.out⟩, valloc_bel (Below.refl _ _) _⟩
              · have hje : j + 1 = s.size := by omega
                have HR := hid (show step5 s.data.toList = none by rw [HS5.out, ← HTR.out, HD.out, hdr, List.drop_eq_nil_of_le (by rw [size_list]; omega), dk, if_pos h1]; rfl)
                clear HD HA hdr h1 HS5
                go_wp2_with fail
                refine bodyPost_ret (v := .tuple #[pv ⟨⟨#[]⟩, 0, false⟩, .bool false]) (by simp [results, Tryz.results47, go_sem, pv]) rfl ⟨⟨_, false, rfl, HR.out⟩, valloc_bel (Below.refl _ _) _⟩
            · have hb : ¬ s[j].toNat = 126 := fun h => h1 (UInt8.toNat_inj.1 h)
              have hb2 : ((s[j].toNat : Int) != 126) = true := by simp; omega
              have HN : Hid (dk s.data.toList = (dk (s.data.toList.drop (j + 1))).map ((acc ++ [s[j]]) ++ ·)) := hid (by
                rw [HD.out, hdr, dk_plain _ h1, Option.map_map]
                congr 1
                funext x; simp)
              have HX := hid (show A ++ s.extract j (j + 1) = mkS (acc ++ [s[j]]) by
                rw [HA.out, ← app_mkS]
                congr 1
                refine mkS_of _ _ ?_
                rw [Lib.extract_data, show j + 1 - j = 1 by omega, hdr]
                rfl)
              have hms : (s.extract j (j + 1)).size = 1 := by simp; omega
              clear HD HA hdr h1
              generalize hm : s.extract j (j + 1) = m at HX hms
              go_wp2_with fail
              go_round
              case rel => exact ⟨j + 1, A ++ m, acc ++ [s[j]], hlt, by go_num, rfl, by rw [ByteArray.size_append]; omega, HX, HN⟩
              case measure => simp [intOf]; omega
          · have HR := hid (show step5 s.data.toList = some ⟨A, 0, false⟩ by
              rw [HS5.out, ← HTR.out, HD.out, List.drop_eq_nil_of_le (by rw [size_list]; omega)]
              simp only [dk, Option.map_some, List.append_nil]
              rw [← HA.out])
            clear HD HA HS5
            go_wp2_with fail
            refine bodyPost_ret (v := .tuple #[pv ⟨A, 0, false⟩, .bool true]) (by simp [results, Tryz.results47, go_sem, pv]) rfl ⟨⟨_, true, rfl, HR.out⟩, valloc_bel (Below.refl _ _) _⟩
    · have HTR := hid (show s.data.toList = Lib.trimPrefix s.data.toList [126, 107] by
        unfold Lib.trimPrefix
        rw [if_neg (by rw [pre_short s h1]; decide)])
      go_wp2_with fail
      go_loop [6, 7] (fun v i => ∃ (j : Nat) (A : ByteArray) (acc : List UInt8), j ≤ s.size ∧ i = .int .i64 j ∧ v = .string A ∧ A.size ≤ j ∧ Hid (A = mkS acc) ∧ Hid (dk s.data.toList = (dk (s.data.toList.drop j)).map (acc ++ ·))) (fun _ i => s.size - (intOf i).toNat)
      case atStart => exact ⟨0, ⟨#[]⟩, [], Nat.zero_le _, rfl, rfl, Nat.zero_le _, hid rfl, hid (by simp)⟩
      case round =>
        obtain ⟨j, A, acc, hj, rfl, rfl, hA, HA, HD⟩ := hrel
        by_cases hlt : j < s.size
        · have hdr : s.data.toList.drop j = s[j] :: s.data.toList.drop (j + 1) := List.drop_eq_getElem_cons (by rw [size_list]; exact hlt)
          by_cases h1 : s[j] = 126
          · have hb : s[j].toNat = 126 := by rw [h1]; rfl
            by_cases hl2 : j + 1 < s.size
            · exact absurd hl2 (by omega)
            · have hje : j + 1 = s.size := by omega
              have HR := hid (show step5 s.data.toList = none by rw [HS5.out, ← HTR.out, HD.out, hdr, List.drop_eq_nil_of_le (by rw [size_list]; omega), dk, if_pos h1]; rfl)
              clear HD HA hdr h1 HS5
              go_wp2_with fail
              refine bodyPost_ret (v := .tuple #[pv ⟨⟨#[]⟩, 0, false⟩, .bool false]) (by simp [results, Tryz.results47, go_sem, pv]) rfl ⟨⟨_, false, rfl, HR.out⟩, valloc_bel (Below.refl _ _) _⟩
          · have hb : ¬ s[j].toNat = 126 := fun h => h1 (UInt8.toNat_inj.1 h)
            have hb2 : ((s[j].toNat : Int) != 126) = true := by simp; omega
            have HN : Hid (dk s.data.toList = (dk (s.data.toList.drop (j + 1))).map ((acc ++ [s[j]]) ++ ·)) := hid (by
              rw [HD.out, hdr, dk_plain _ h1, Option.map_map]
              congr 1
              funext x; simp)
            have HX := hid (show A ++ s.extract j (j + 1) = mkS (acc ++ [s[j]]) by
              rw [HA.out, ← app_mkS]
              congr 1
              refine mkS_of _ _ ?_
              rw [Lib.extract_data, show j + 1 - j = 1 by omega, hdr]
              rfl)
            have hms : (s.extract j (j + 1)).size = 1 := by simp; omega
            clear HD HA hdr h1
            generalize hm : s.extract j (j + 1) = m at HX hms
            go_wp2_with fail
            go_round
            case rel => exact ⟨j + 1, A ++ m, acc ++ [s[j]], hlt, by go_num, rfl, by rw [ByteArray.size_append]; omega, HX, HN⟩
            case measure => simp [intOf]; omega
        · have HR := hid (show step5 s.data.toList = some ⟨A, 0, false⟩ by
            rw [HS5.out, ← HTR.out, HD.out, List.drop_eq_nil_of_le (by rw [size_list]; omega)]
            simp only [dk, Option.map_some, List.append_nil]
            rw [← HA.out])
          clear HD HA HS5
          go_wp2_with fail
          refine bodyPost_ret (v := .tuple #[pv ⟨A, 0, false⟩, .bool true]) (by simp [results, Tryz.results47, go_sem, pv]) rfl ⟨⟨_, true, rfl, HR.out⟩, valloc_bel (Below.refl _ _) _⟩
end Go.Proofs.YtjffhjdjoankcaaGreatDoor
