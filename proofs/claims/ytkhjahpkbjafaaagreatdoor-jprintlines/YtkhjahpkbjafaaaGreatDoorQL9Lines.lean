/- What is written in lines, without them and the blanks, is what is written in one: JprintLines walked. -/
import Derived.Test.YtkhjahpkbjafaaaGreatDoorQL9Base
import Derived.Test.YtkhjahpkbjafaaaGreatDoorQMathByte
import Derived.Test.YtkhjahpkbjafaaaGreatDoorQL8Base
import Derived.Test.YtkhjahpkbjafaaaGreatDoorQVOpen
namespace Go.Proofs.YtkhjahpkbjafaaaGreatDoor
open Go.RowKit

theorem kp_take {s : ByteArray} {j : Nat} (h : j < s.size) : kp (s.data.toList.take (j + 1)) = kp (s.data.toList.take j) ++ (if kpB s[j] = true then [s[j]] else []) := by
  rw [take_next (list_at s j h), kp_app]
  congr 1
  unfold kp
  rw [List.filter_cons, List.filter_nil]
theorem kp_len (l : List UInt8) : (kp l).length ≤ l.length := List.length_filter_le ..
set_option maxRecDepth 100000 in
set_option maxHeartbeats 4000000 in
theorem Tryz.jprintLines_walk (T : VT) (x y : Value) (w : World) (hg : GlobP w) (hT : HV w T x y) :
    Calls Tryz.prog 13 #[vv T x y] w fun e w' => e = .returned (.bool true) ∧ Below w.heap.size w w' := by
  obtain ⟨i1, hi, hz0, hz1, hz2⟩ := info_parts Tryz.info_b
  have hal := valloc_bel (Below.refl w.heap.size w) (.cells #[.int .i64 T.kd, .int .i64 T.nm, .string T.st, x, y] 27)
  have CA := hid (awake9 (w.alloc (.cells #[.int .i64 T.kd, .int .i64 T.nm, .string T.st, x, y] 27)) (hg.on hal))
  have HG := hid hg
  have HWF := hid hT.wfT
  have HT := hid hT
  have HAL := hid hal
  clear hg hT hal
  have CH := hid (fun X (hX : Below w.heap.size w X) => heavy_any T x y 150 32 X (HT.out.onto hX) (by omega) (by omega))
  have CM := hid (fun X (hX : Below w.heap.size w X) => rvalue_any T x y X (HT.out.onto hX))
  have CC := hid (fun X (hX : Below w.heap.size w X) => compact_any T x y X (HG.out.on hX) (HT.out.onto hX))
  have CI := hid (fun X (hX : Below w.heap.size w X) => indent_any T x y X (HG.out.on hX) (HT.out.onto hX))
  simp only [vv] at CH CM CC CI ⊢
  obtain ⟨k, hk⟩ : ∃ k, T.kd = k := ⟨_, rfl⟩
  obtain ⟨nm, hnm⟩ : ∃ nm, T.nm = nm := ⟨_, rfl⟩
  obtain ⟨st, hst⟩ : ∃ st, T.st = st := ⟨_, rfl⟩
  have HK := hid hk
  have HN := hid hnm
  have HST := hid hst
  rw [hk, hnm, hst] at CA HAL CH CM CC CI ⊢
  clear hk hnm hst
  go_enter Tryz.func13, Tryz.ntmps13
  go_wp2_with fail
  go_at_call 25
  refine CA.out.mono ?_
  rintro e w0 ⟨rfl, hb0⟩
  have hbx : Below (w.heap.size + 1) (w.alloc (.cells #[.int .i64 k, .int .i64 nm, .string st, x, y] 27)) w0 := by simpa using hb0
  have c0 := box_cell w w0 _ _ _ _ _ _ hbx 0 _ rfl
  have c1 := box_cell w w0 _ _ _ _ _ _ hbx 1 _ rfl
  have c2 := box_cell w w0 _ _ _ _ _ _ hbx 2 _ rfl
  have c3 := box_cell w w0 _ _ _ _ _ _ hbx 3 _ rfl
  have c4 := box_cell w w0 _ _ _ _ _ _ hbx 4 _ rfl
  have HB0 := hid (vonto HAL.out hb0)
  clear hb0 hbx CA HAL
  go_wp2_with fail
  go_at_call 21
  refine (CH.out _ HB0.out).mono ?_
  rintro e w1 ⟨rfl, hb1⟩
  replace c0 := keepCell hb1 c0
  replace c1 := keepCell hb1 c1
  replace c2 := keepCell hb1 c2
  replace c3 := keepCell hb1 c3
  replace c4 := keepCell hb1 c4
  have HB1 := hid (vonto HB0.out hb1)
  clear hb1 CH HB0
  cases hf : fitB T 32 150 with
  | false =>
    go_wp2_with fail
    go_ret
    exact ⟨rfl, HB1.out⟩
  | true =>
  have hfit : szT T ≤ 150 := by
    unfold fitB at hf
    have := of_decide_eq_true hf
    omega
  clear hf
  go_wp2_with fail
  go_at_call 22
  refine (CM.out _ HB1.out).mono ?_
  rintro e w2 ⟨rfl, hb2⟩
  replace c0 := keepCell hb2 c0
  replace c1 := keepCell hb2 c1
  replace c2 := keepCell hb2 c2
  replace c3 := keepCell hb2 c3
  replace c4 := keepCell hb2 c4
  have HB2 := hid (vonto HB1.out hb2)
  clear hb2 CM HB1
  cases hm : mayB 0 1 T with
  | false =>
    go_wp2_with fail
    go_ret
    exact ⟨rfl, HB2.out⟩
  | true =>
  obtain ⟨hpl, hsz, hhg⟩ := may_parts hm
  have HPL := hid hpl
  have e1 : ∀ inl, wrB inl T = txs (tkV (indO inl 0) T) := fun inl => by unfold wrB; rw [if_pos hm]
  rw [e1] at CC CI
  simp only [indO, Bool.false_eq_true, if_false, if_true] at CC CI
  have hln := val_len T none hpl HWF.out (fun k hk => by cases hk)
  obtain ⟨m, hmm⟩ : ∃ m, mkS (txs (tkV none T)) = m := ⟨_, rfl⟩
  rw [hmm] at CC
  have hms : m.size ≤ 60000 * 150 := by
    rw [← hmm, mkS_size]
    have : 60000 * szT T ≤ 60000 * 150 := Nat.mul_le_mul_left _ hfit
    omega
  have HM := hid (show txs (tkV none T) = m.data.toList by rw [← hmm, mkS_list])
  clear hmm e1 hm hpl hln
  go_wp2_with fail
  go_at_call 26
  refine (CC.out _ HB2.out).mono ?_
  rintro e w3 ⟨rfl, hb3⟩
  replace c0 := keepCell hb3 c0
  replace c1 := keepCell hb3 c1
  replace c2 := keepCell hb3 c2
  replace c3 := keepCell hb3 c3
  replace c4 := keepCell hb3 c4
  have HB3 := hid (vonto HB2.out hb3)
  clear hb3 CC HB2
  have hln2 := val_len T (some 0) HPL.out HWF.out (fun k hk => by injection hk with hk; omega)
  obtain ⟨u, huu⟩ : ∃ u, mkS (txs (tkV (some 0) T)) = u := ⟨_, rfl⟩
  rw [huu] at CI
  have hus : u.size ≤ 9000000 := by
    rw [← huu, mkS_size]
    have : 60000 * szT T ≤ 60000 * 150 := Nat.mul_le_mul_left _ hfit
    omega
  have HU := hid (show txs (tkV (some 0) T) = u.data.toList by rw [← huu, mkS_list])
  clear huu hln2
  go_wp2_with fail
  go_loopw [4] (fun iv wr => ∃ j : Nat, j ≤ m.size ∧ iv = .int .i64 j ∧ Hid (∀ i, i < j → ∀ (h : i < m.size), m[i].toNat ≠ 32) ∧ wr = w3) (fun iv _ => m.size - (intOf iv).toNat)
  case atStart => exact ⟨0, Nat.zero_le _, rfl, fun i hi => by omega, rfl⟩
  case round =>
    obtain ⟨j, hj, rfl, HNO, hwr⟩ := hrel
    subst hwr
    by_cases hlt : j < m.size
    · by_cases h32 : m[j].toNat = 32
      · have hb32 : ((m[j].toNat : Int) == 32) = true := by rw [h32]; rfl
        go_wp2_with fail
        go_ret
        exact ⟨rfl, HB3.out⟩
      · have hb32 : ((m[j].toNat : Int) == 32) = false := by rw [beq_eq_false_iff_ne]; omega
        go_wp2_with fail
        go_roundw
        case rel => exact ⟨j + 1, by omega, val_int (by omega), fun i hi h => (by
          by_cases e : i = j
          · subst e; exact h32
          · exact HNO.out i (by omega) h), by first | trivial | rfl⟩
        case measure => simp [intOf]; omega
    · have HSAME := hid (show kp u.data.toList = m.data.toList by
        rw [← HU.out, ← HM.out]
        refine lines_same T HPL.out HWF.out (fun b hb => ?_)
        rw [HM.out] at hb
        obtain ⟨i, hi', rfl⟩ := List.mem_iff_getElem.1 hb
        have hlt' : i < m.size := by rw [size_list] at hi'; exact hi'
        have := HNO.out i (by omega) hlt'
        exact this)
      clear HNO
      have hmk := Tryz.madeB
      go_wp2_with fail
      go_at_call 27
      refine (CI.out _ HB3.out).mono ?_
      rintro e w4 ⟨rfl, hb4⟩
      have HB4 := hid (vonto HB3.out hb4)
      have hcs := HB4.out.size
      clear hb4 CI HB3
      go_wp2_with fail
      clear hmk
      go_loopw [6, 7] (fun rv iv wr => ∃ q : Nat, q ≤ u.size ∧ iv = .int .i64 q ∧ Hid (wr.ownsRow w.heap.size 5 1 rv (kp (u.data.toList.take q)).length (Lib.strCells (mkS (kp (u.data.toList.take q))))) ∧ Hid (Below w.heap.size w wr)) (fun _ iv _ => u.size - (intOf iv).toNat)
      case atStart => exact ⟨0, Nat.zero_le _, rfl, Tryz.madeB_own _ _ hcs, valloc_bel HB4.out _⟩
      case round =>
        clear hcs HB4
        obtain ⟨q, hq, rfl, HO, HB⟩ := hrel
        have hbs := HB.out.size
        have hkl : (kp (u.data.toList.take q)).length ≤ 9000000 := by
          have h1 := kp_len (u.data.toList.take q)
          rw [List.length_take, size_list] at h1; omega
        by_cases hlt : q < u.size
        · have HNX := hid (kp_take hlt)
          by_cases hk : u[q].toNat = 32 ∨ u[q].toNat = 10
          · have HN2 := hid (show kp (u.data.toList.take (q + 1)) = kp (u.data.toList.take q) by
              rw [HNX.out, if_neg (by unfold kpB; simp; omega), List.append_nil])
            rcases hk with hk | hk
            · have b1 : ((u[q].toNat : Int) != 32) = false := by rw [hk]; rfl
              clear hk
              go_wp2_with fail
              go_roundw
              case rel => exact ⟨q + 1, by omega, val_int (by omega), by show World.ownsRow _ _ _ _ _ _ _; rw [HN2.out]; exact HO.out, HB.out⟩
              case measure => simp [intOf]; omega
            · have b1 : ((u[q].toNat : Int) != 32) = true := by rw [hk]; rfl
              have b2 : ((u[q].toNat : Int) != 10) = false := by rw [hk]; rfl
              clear hk
              go_wp2_with fail
              go_roundw
              case rel => exact ⟨q + 1, by omega, val_int (by omega), by show World.ownsRow _ _ _ _ _ _ _; rw [HN2.out]; exact HO.out, HB.out⟩
              case measure => simp [intOf]; omega
          · have b1 : ((u[q].toNat : Int) != 32) = true := by rw [bne_iff_ne]; omega
            have b2 : ((u[q].toNat : Int) != 10) = true := by rw [bne_iff_ne]; omega
            have HN2 := hid (show kp (u.data.toList.take (q + 1)) = kp (u.data.toList.take q) ++ [u[q]] by
              rw [HNX.out, if_pos (by unfold kpB; simp; omega)])
            clear hk
            go_wp2_with (at_builtin; go_must (refine wpList_append_own _ rfl _ _ 34 rfl w.heap.size 5 i1 (.int .u8 0) 1 1 Tryz.underlying34 hi hz0 hz1 hz2 rfl (by decide) _ (kp (u.data.toList.take q)).length _ rfl (HO.out.alloc _) ⟨wr.heap.size, 0, none⟩ 1 1 [.int .u8 (u[q].toNat : Int)] rfl rfl (new_cells wr _ 5) (ints_oneCell .u8 [(u[q].toNat : Int)]) (by unfold maxLen; omega) (by omega) (by simp; omega) ?_; intro v1 w5 hown1 hgr1 _; have hown3 : w5.ownsRow w.heap.size 5 1 v1 (kp (u.data.toList.take q) ++ [u[q]]).length (Lib.strCells (mkS (kp (u.data.toList.take q) ++ [u[q]]))) := own_snoc hown1))
            have hb5 : Below w.heap.size w w5 := (HB.out.alloc hbs _).grown hgr1 (by simp; omega) (fun j hj => (HO.out.lt j hj).1)
            go_roundw
            case rel => exact ⟨q + 1, by omega, val_int (by omega), by show World.ownsRow _ _ _ _ _ _ _; rw [HN2.out]; exact hown3, hb5⟩
            case measure => simp [intOf]; omega
        · have hall : u.data.toList.take q = u.data.toList := by
            rw [show q = u.data.toList.length from by rw [size_list]; omega, List.take_length]
          have hcv := conv_own wr w.heap.size _ _ HO.out
          rw [hall, HSAME.out, ← mkS_of m _ rfl] at hcv
          go_wp2_with fail
          go_ret
          exact ⟨by first | rfl | exact ret_bool (by simp), HB.out⟩
end Go.Proofs.YtkhjahpkbjafaaaGreatDoor
