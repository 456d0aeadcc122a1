import Derived.Test.YtjbccmnmcjmooaaDoorCrA
/- strings.IndexAny at a field's ends: at any text. -/
namespace Go.Proofs.YtjbccmnmcjmooaaDoor
open Go.RowKit

/-- a letter of more bytes: none of them is below 128 -/
theorem wide_bytes (a : UInt8) (t : List UInt8) (h : 128 ≤ a.toNat) : 128 ≤ (Lib.decodeL (a :: t)).1 ∧ (Lib.decodeL (a :: t)).2 ≤ (a :: t).length ∧ ∀ (j : Nat) b, j < (Lib.decodeL (a :: t)).2 → (a :: t)[j]? = some b → 128 ≤ b.toNat := by
  rw [tk_dec _ (by simp)]
  by_cases h0 : tkN (a :: t) = 0
  · rw [if_pos h0]
    refine ⟨by decide, by simp, fun j b hj hb => ?_⟩
    obtain rfl : j = 0 := by simp at hj; exact hj
    simp at hb; subst hb; exact h
  · rw [if_neg h0]
    refine ⟨?_, (show tkN (a :: t) ≤ (a :: t).length from tkN_le _), fun j b hj hb => ?_⟩
    all_goals
      have hn := tkN_c a t
      have hr := tkR_c a t
      by_cases hok : tkOk a t = true
      · rw [if_pos hok] at hn hr
        unfold tkOk at hok
        simp only [Bool.and_eq_true, decide_eq_true_eq] at hok
        obtain ⟨⟨h1, h2⟩, h3, h4⟩ := hok
        have hb2 : 2 ≤ begN a.toNat := by
          have h1' := h1.1
          revert h1'
          unfold begN
          repeat' split
          all_goals omega
        first
        | (show 128 ≤ tkR (a :: t)
           rw [hr]
           unfold wdN at h4
           split at h4 <;> omega)
        | (cases j with
           | zero => simp at hb; subst hb; exact h
           | succ j =>
             simp only [List.getElem?_cons_succ] at hb
             have hj' : j < begN a.toNat - 1 := by simp only at hj; omega
             have hm : b ∈ t.take (begN a.toNat - 1) := by
               rw [List.mem_iff_getElem?]
               exact ⟨j, by rw [List.getElem?_take_of_lt hj']; exact hb⟩
             have := List.all_eq_true.1 h2 b hm
             unfold cont at this
             have := of_decide_eq_true this
             omega)
      · rw [if_neg hok] at hn
        exact absurd hn h0
theorem cr_lt : ∀ (l : List UInt8), (∀ x ∈ l, x.toNat < 128) → ∀ c : UInt8, 128 ≤ c.toNat → Lib.indexByte l c = -1
  | [], _, _, _ => rfl
  | b :: l, h, c, hc => by
    have h1 : (b == c) = false := by
      rw [beq_eq_false_iff_ne]; rintro rfl
      have := h b (by simp); omega
    unfold Lib.indexByte
    rw [h1, cr_lt l (fun x hx => h x (by simp [hx])) c hc]; rfl
theorem cr_ix (T : ByteArray) (hA : ∀ k (h : k < T.size), T[k].toNat < 128) (k j : Nat) (c : UInt8) (hc : 128 ≤ c.toNat) (X : World) :
    Calls Tryd.prog 57 #[.string (T.extract k j), .int .u8 (c.toNat : Int)] X fun e w' => e = .returned (.int .i64 (-1)) ∧ w' = X := by
  have := Tryd.strings_IndexByte (T.extract k j) (c.toNat : Int) X
  have e : ((c.toNat : Int).toNat).toUInt8 = c := by simp
  rw [e, cr_lt _ (fun x hx => ?_) c hc] at this
  · exact this
  · have hm := mem_extract hx
    obtain ⟨i, hi, rfl⟩ := List.getElem_of_mem hm
    exact hA i (by rw [size_list] at hi; exact hi)
set_option maxRecDepth 100000 in
set_option maxHeartbeats 2000000 in
theorem irune_cr (T : ByteArray) (hT : T.size = 4) (hA : ∀ k (h : k < T.size), T[k].toNat < 128) (r : Nat) (w : World) (h1 : 128 ≤ r) (h2 : r ≤ 1114111) :
    Calls Tryd.prog 43 #[.string T, .int .i32 (r : Int)] w fun e w' => e = .returned (.int .i64 (-1)) ∧ Below w.heap.size w w' := by
  have g1 : ¬ ((r : Int) < 128) := by omega
  have g0 : (0 : Int) ≤ (r : Int) := by omega
  by_cases h5 : r = 65533
  · have h6 : ((r : Int) == 65533) = true := by rw [beq_iff_eq]; omega
    have HA := hid hA
    have HT := hid hT
    clear hA hT
    go_enter Tryd.func43, Tryd.ntmps43
    go_wp2_with fail
    go_loopg [] 4 (fun gk wx => ∃ k : Nat, k ≤ 4 ∧ 4 ≤ k + gk ∧ wx.heap[w.heap.size]? = some (.stringIter T k) ∧ Hid (Below w.heap.size w wx))
    case atStart => exact ⟨0, Nat.zero_le _, by omega, World.iter_heap w _ 0, (Below.refl _ _).alloc (Nat.le_refl _) _⟩
    case round =>
      obtain ⟨k, hk, hg, hit, HB⟩ := hrel
      by_cases hlt : k < T.size
      · have hlt10 : k < 4 := by rw [HT.out] at hlt; exact hlt
        have ha := HA.out k hlt
        have hnx : ∀ ty, (Instr.next (.pointer (some ⟨w.heap.size, 0, none⟩)) true ty).run Tryd.prog wr = _ := fun ty => Lib.run_next_ascii_at wr w.heap.size _ k ty hit hlt ha
        have HB2 := hid (Lib.below_iterAt HB.out (k := w.heap.size) (Nat.le_refl _) T (k + 1))
        have HI2 := hid (Lib.iterAt_heap wr w.heap.size _ k (k + 1) hit)
        obtain ⟨g', rfl⟩ : ∃ g', gk = g' + 1 := ⟨gk - 1, by omega⟩
        have h7 : ((T[k].toNat : Int) == 65533) = false := by rw [beq_eq_false_iff_ne]; omega
        clear hit HB
        go_wp2_with fail
        go_roundg g'
        case measure => omega
        case rel => exact ⟨k + 1, hlt10, by omega, HI2.out, HB2.out⟩
      · have hnx : ∀ ty, (Instr.next (.pointer (some ⟨w.heap.size, 0, none⟩)) true ty).run Tryd.prog wr = _ := fun ty => Lib.run_next_end_at wr w.heap.size _ k ty hit hlt
        clear hit
        go_wp2_with fail
        go_ret
        exact ⟨rfl, HB.out⟩
  · have h6 : ((r : Int) == 65533) = false := by rw [beq_eq_false_iff_ne]; omega
    have CV := hid (fun X => Tryd.utf8_ValidRune (r : Int) X)
    obtain ⟨v, hv⟩ : ∃ v, Lib.validRune (r : Int) = v := ⟨_, rfl⟩
    rw [hv] at CV
    cases v with
    | false =>
      go_enter Tryd.func43, Tryd.ntmps43
      go_wp2_with (go_at_call 58; go_must (refine (CV.out _).mono ?_; rintro e w1 ⟨rfl, rfl⟩))
      go_ret
      exact ⟨rfl, Below.refl _ _⟩
    | true =>
      obtain ⟨z2, z4, hl⟩ := encode_facts (r : Int) (by rw [validRune_eq]; exact hv) (by omega)
      clear hv
      obtain ⟨m, hm⟩ : ∃ m, Utf8.encode (r : Int) = m := ⟨_, rfl⟩
      rw [hm] at z2 z4
      have hl2 : ∀ k (h : k < m.size), k + 1 = m.size → 128 ≤ m[k].toNat := by
        rw [← hm]
        intro k h hk
        have e : (Utf8.encode (r : Int)).size - 1 = k := by omega
        simp only [e] at hl
        exact hl h
      clear hl
      obtain ⟨l, hl⟩ : ∃ l, m.size = l + 1 := ⟨m.size - 1, by omega⟩
      have z1 : 1 ≤ l ∧ l ≤ 3 := by omega
      clear z2 z4
      obtain ⟨z1, z3⟩ := z1
      have hlt : l < m.size := by omega
      have hb := hl2 l hlt (by omega)
      have hlT : l < T.size := by omega
      have ha := hA l hlT
      have hb2 : ((T[l].toNat : Int) != (m[l].toNat : Int)) = true := by rw [bne_iff_ne]; omega
      have CI := hid (fun X => cr_ix T hA (l + 1) T.size m[l] hb X)
      clear hl2 hA
      go_enter Tryd.func43, Tryd.ntmps43
      go_wp2_with (go_at_call 58; go_must (refine (CV.out _).mono ?_; rintro e w1 ⟨rfl, rfl⟩))
      go_step3
      go_wp2_with fail
      go_loopw [9] (fun i wx => i = .int .i64 (l : Int) ∧ wx = w1) (fun _ _ => 0)
      case atStart => exact ⟨val_int (by omega), rfl⟩
      case round =>
        obtain ⟨rfl, rfl⟩ := hrel
        have HL := hid hl
        have hT10 : T.size ≤ 10 := by omega
        clear hl hT hm h5 z3 z1 h1 h2 hb ha
        go_wp2_with fail
        go_step3
        go_wp2_with fail
        go_quiet (fail)
        go_wp2_with fail
        go_quiet ((go_at_call 57; exact (CI.out _).mono (by rintro e w5 ⟨rfl, rfl⟩; exact ⟨rfl, _, rfl⟩)))
        go_wp2_with fail
        rw [Exit.noGoto_ret]
        go_wp2_with fail
        rw [Exit.noGoto_ret]
        go_wp2_with fail
        go_ret
        exact ⟨rfl, below_drewN (Below.refl _ _) _⟩
set_option maxRecDepth 100000 in
set_option maxHeartbeats 4000000 in
theorem ixany_short (T s : ByteArray) (w : World) (hT : T.size = 4) (hA : ∀ k (h : k < T.size), T[k].toNat < 128) (h8 : s.size ≤ 8) :
    Calls Tryd.prog 33 #[.string s, .string T] w fun e w' => e = .returned (.int .i64 (Lib.indexAny s.data.toList T.data.toList)) ∧ Below w.heap.size w w' := by
  have CW := hid (fun r X h1 h2 => irune_cr T hT hA r X h1 h2)
  have CA := hid (fun (x : Nat) X (h : (x : Int) < 128) => Tryd.strings_IndexRune_ascii T (x : Int) X (by omega) h)
  have hemp : T.toList.isEmpty = false := by
    rw [Lib.toList_data]
    cases h : T.data.toList with
    | nil => have := Lib.size_eq T; rw [h, List.length_nil] at this; omega
    | cons _ _ => rfl
  have hn1 : ((T.size : Int) == 1) = false := beq_eq_false_iff_ne.2 (by omega)
  have h8z : decide ((8 : Int) < (s.size : Int)) = false := decide_eq_false (by omega)
  have CU := hid (fun X => Any.strings_shouldUseASCIISet (P := Tryd.prog) { Tryd.lays153 with } (s.size : Int) X)
  rw [h8z] at CU
  have HTA : Hid (∀ x : UInt8, T.data.toList.contains x = true → x.toNat < 128) := hid (fun x hx => by
    have hm : x ∈ T.data.toList := by simpa using hx
    obtain ⟨i, hi, rfl⟩ := List.getElem_of_mem hm
    exact hA i (by rw [size_list] at hi; exact hi))
  clear hA hT h8z
  go_enter Tryd.func33, Tryd.ntmps33
  go_wp2_with (go_at_call 44; go_must (refine (CU.out _).mono ?_; rintro e w' ⟨rfl, hw'⟩; obtain rfl := hw'.symm))
  go_loopg [9, 10] 8 (fun gk _ _ wx => ∃ k : Nat, k ≤ s.size ∧ s.size ≤ k + gk ∧ wx.heap[w.heap.size]? = some (.stringIter s k) ∧ Hid (Lib.NoAny s.data.toList T.data.toList k) ∧ Hid (Below w.heap.size w wx))
  case atStart => exact ⟨0, Nat.zero_le _, by omega, World.iter_heap w _ 0, Lib.NoAny.zero _ _, (Below.refl _ _).alloc (Nat.le_refl _) _⟩
  case round =>
    obtain ⟨k, hk, hg, hit, HN, HB⟩ := hrel
    by_cases hlt : k < s.size
    · obtain ⟨x, hx⟩ : ∃ x : UInt8, s[k]'hlt = x := ⟨_, rfl⟩
      have Hx := hid (show s.data.toList[k]? = some x by rw [← hx]; exact Lib.data_getElem? s k hlt)
      obtain ⟨g', rfl⟩ : ∃ g', gk = g' + 1 := ⟨gk - 1, by omega⟩
      by_cases h128 : x.toNat < 128
      · have hnx : ∀ ty, (Instr.next (.pointer (some ⟨w.heap.size, 0, none⟩)) true ty).run Tryd.prog wr = _ := fun ty => Lib.run_next_ascii_at wr w.heap.size _ k ty hit hlt (by rw [hx]; exact h128)
        rw [hx] at hnx
        have HB2 := hid (Lib.below_iterAt HB.out (k := w.heap.size) (Nat.le_refl _) s (k + 1))
        have HI2 := hid (Lib.iterAt_heap wr w.heap.size _ k (k + 1) hit)
        have hcon := Lib.contains_iff_indexByte T.data.toList x
        have C := hid (fun X => CA.out x.toNat X (by omega))
        have hback : ((x.toNat : Int)).toNat.toUInt8 = x := by simp
        rw [hback] at C
        clear hit HB hx hback
        cases hin : T.data.toList.contains x
        · rw [hin] at hcon
          have hl : ¬ ((0 : Int) ≤ Lib.indexByte T.data.toList x) := of_decide_eq_false hcon.symm
          obtain ⟨R, hR⟩ : ∃ R, Lib.indexByte T.data.toList x = R := ⟨_, rfl⟩
          rw [hR] at hl C
          have HIN := hid hin
          clear hcon hR hin
          go_wp2_with (go_at_call 43; go_must (refine (C.out _).mono ?_; rintro e w' ⟨rfl, rfl⟩))
          go_roundg g'
          case measure => omega
          case rel => exact ⟨k + 1, by omega, by omega, HI2.out, HN.out.succ Hx.out HIN.out, HB2.out⟩
        · rw [hin] at hcon
          have hl : (0 : Int) ≤ Lib.indexByte T.data.toList x := of_decide_eq_true hcon.symm
          obtain ⟨R, hR⟩ : ∃ R, Lib.indexByte T.data.toList x = R := ⟨_, rfl⟩
          rw [hR] at hl C
          have HIN := hid hin
          clear hcon hR hin
          go_wp2_with (go_at_call 43; go_must (refine (C.out _).mono ?_; rintro e w' ⟨rfl, rfl⟩))
          go_ret
          exact ⟨by rw [Lib.indexAny_hit HN.out Hx.out HIN.out]; rfl, HB2.out⟩
      · have hnx : ∀ ty, (Instr.next (.pointer (some ⟨w.heap.size, 0, none⟩)) true ty).run Tryd.prog wr = _ := fun ty => Lib.run_next_any_at wr w.heap.size s k ty hit hlt
        have hdl := Lib.decodeL_drop s k
        have hcons : s.data.toList.drop k = x :: s.data.toList.drop (k + 1) := by
          obtain ⟨hk', hk2⟩ := List.getElem?_eq_some_iff.1 Hx.out
          rw [List.drop_eq_getElem_cons hk', hk2]
        have hwb := wide_bytes x (s.data.toList.drop (k + 1)) (by omega)
        rw [← hcons, hdl] at hwb
        obtain ⟨hr1, hn1', hb1⟩ := hwb
        have hr2 := Lib.rune_le s k
        have hw1 := Lib.width_pos s k
        obtain ⟨r, hr⟩ : ∃ r, (Utf8.decode s k).1 = r := ⟨_, rfl⟩
        obtain ⟨n, hn⟩ : ∃ n, (Utf8.decode s k).2 = n := ⟨_, rfl⟩
        rw [hr] at hnx hr1 hr2
        rw [hn] at hnx hn1' hb1 hw1
        have hkn : k + n ≤ s.size := by rw [List.length_drop, size_list] at hn1'; omega
        have HB2 := hid (Lib.below_iterAt HB.out (k := w.heap.size) (Nat.le_refl _) s (k + n))
        have HI2 := hid (Lib.iterAt_heap wr w.heap.size _ k (k + n) hit)
        have HN2 : Hid (Lib.NoAny s.data.toList T.data.toList (k + n)) := hid (fun j b hj hb => by
          by_cases hjk : j < k
          · exact HN.out j b hjk hb
          · have hd : (s.data.toList.drop k)[j - k]? = some b := by rw [List.getElem?_drop]; rw [show k + (j - k) = j by omega]; exact hb
            have := hb1 (j - k) b (by omega) hd
            cases hc : T.data.toList.contains b with
            | false => rfl
            | true => have := HTA.out b hc; omega)
        have C := hid (fun X => CW.out r X hr1 hr2)
        clear hit HB hx hdl hcons hb1 hr hn hn1' h128 HN
        go_wp2_with (go_at_call 43; go_must (refine (C.out _).mono ?_; rintro e w2 ⟨rfl, hb2⟩))
        go_roundg g'
        case measure => omega
        case rel =>
          refine ⟨k + n, hkn, by omega, ?_, HN2.out, ?_⟩
          · first
            | (rw [hb2.block _ (by simp; exact (Array.getElem?_eq_some_iff.1 HI2.out).1)]; exact HI2.out)
            | (rw [hb2.block _ ((Array.getElem?_eq_some_iff.1 HI2.out).1)]; exact HI2.out)
          · exact HB2.out.trans (hb2.mono HB2.out.size)
    · have hnx : ∀ ty, (Instr.next (.pointer (some ⟨w.heap.size, 0, none⟩)) true ty).run Tryd.prog wr = _ := fun ty => Lib.run_next_end_at wr w.heap.size _ k ty hit hlt
      have HE : Hid (Lib.indexAny s.data.toList T.data.toList = -1) := hid (Lib.indexAny_none (by rw [size_list]; have := HN.out; rw [show k = s.size by omega] at this; exact this))
      clear hit HN
      go_wp2_with fail
      go_ret
      exact ⟨by rw [HE.out]; rfl, HB.out⟩
theorem ixany_any (T s : ByteArray) (w : World) (hT : T.size = 4) (hA : ∀ k (h : k < T.size), T[k].toNat < 128) (hs : s.size ≤ 1000000) :
    Calls Tryd.prog 33 #[.string s, .string T] w fun e w' => e = .returned (.int .i64 (Lib.indexAny s.data.toList T.data.toList)) ∧ Below w.heap.size w w' := by
  by_cases h8 : s.size ≤ 8
  · exact ixany_short T s w hT hA h8
  · have h116 : (Tryd.prog.info? (Tryd.lays153_ren.t 116)).map (fun i => (i.zero, i.size)) = some (some (.agg (Array.replicate 256 (.bool false))), 256) := by kernel_rfl
    refine (Any.strings_IndexAny_long Tryd.lays153 (zero_of_info h116).1 (zero_of_info h116).2 s T w (by omega) (by omega) (by omega) (by omega) (fun j b hb => ?_)).mono ?_
    · have hm : b ∈ T.data.toList := List.mem_of_getElem? hb
      obtain ⟨i, hi, rfl⟩ := List.getElem_of_mem hm
      exact hA i (by rw [size_list] at hi; exact hi)
    · rintro e w' ⟨he, rfl⟩
      exact ⟨he, ((Below.refl _ _).alloc (Nat.le_refl _) _).alloc (by simp) _⟩
end Go.Proofs.YtjbccmnmcjmooaaDoor
