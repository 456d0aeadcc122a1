/- esc.read: walked. -/
import Derived.Test.YtoamndiblckdlaaGreatDoorEscG
namespace Go.Proofs.YtoamndiblckdlaaGreatDoor
open Go.RowKit

theorem Tryz.info_b : (Tryz.prog.info? 5).map (fun i => (i.zero, i.size, i.bytes)) = some (some (.int .u8 0), 1, 1) := by kernel_rfl
/-- no piece says more than it takes, none takes more than there is -/
def Fits (P : List UInt8 → List UInt8 × Nat) : Prop := ∀ l, (P l).2 ≤ l.length ∧ (P l).1.length ≤ (P l).2
theorem own_app {w : World} {base : Nat} {v : Value} {a x : List UInt8} {m : ByteArray} (hm : mkS x = m) (h : w.ownsRow base 5 1 v (a.length + m.size) (Lib.strCells (mkS a) ++ Lib.strCells m)) :
    w.ownsRow base 5 1 v (a ++ x).length (Lib.strCells (mkS (a ++ x))) := by
  subst hm
  rw [mkS_size] at h
  rw [strCells_app, List.length_append]
  exact h
set_option maxRecDepth 100000 in
set_option maxHeartbeats 2000000 in
theorem read_any (FE FP b : Nat) (E P : List UInt8 → List UInt8 × Nat) (t : ByteArray) (i0 : Nat) (w : World) (ht : t.size ≤ 1000000) (hi0 : i0 ≤ t.size)
    (eE : ∀ args w, (callFunc FE args).run Tryz.prog w = .ok (.enter FE args) w) (eP : ∀ args w, (callFunc FP args).run Tryz.prog w = .ok (.enter FP args) w)
    (hE : EndOf w FE b E) (hP : PieceOf FP P) (fE : Fits E) (fP : Fits P) :
    Calls Tryz.prog 59 #[.string t, .int .i64 (i0 : Int), .func (.func FE) #[] #[.pointer (some ⟨b, 0, none⟩)], .func (.func FP) #[] #[]] w
      fun e w' => e = .returned (.tuple #[.string (mkS (rdA E P t.data.toList i0).1), .int .i64 ((rdA E P t.data.toList i0).2.1 : Nat), .int .i64 (rdA E P t.data.toList i0).2.2]) ∧ Below w.heap.size w w' := by
  have HZ := hid (size_list t)
  have HE := hid hE
  have HPP := hid hP
  have HFE := hid fE
  have HFP := hid fP
  have HML := hid (show t.size ≤ maxLen from max_le ht)
  clear hE hP fE fP
  obtain ⟨i1, hi, hz0, hz1, hz2⟩ := info_parts Tryz.info_b
  obtain ⟨T, hT⟩ : ∃ T, t.data.toList = T := ⟨_, rfl⟩
  have HT := hid hT
  obtain ⟨R, hR⟩ : ∃ R, rdA E P T i0 = R := ⟨_, rfl⟩
  have HR := hid hR
  rw [hT, hR]
  clear hT hR
  go_enter Tryz.func59, Tryz.ntmps59
  go_wp2_with fail
  go_loopw [1, 11] (fun a o wr => ∃ (i f : Nat) (acc : List UInt8), i ≤ t.size ∧ a = .int .i64 i ∧ acc.length ≤ i ∧ Hid (wr.ownsRow w.heap.size 5 1 o acc.length (Lib.strCells (mkS acc))) ∧ Hid (rd E P T f i acc = R) ∧ Hid (T.length < i + f) ∧ Hid (Below w.heap.size w wr)) (fun a _ _ => t.size - (intOf a).toNat)
  case atStart => exact ⟨i0, T.length + 1, [], hi0, rfl, Nat.zero_le _, World.ownsRow_nil _ _ _ _, HR.out, (show T.length < i0 + (T.length + 1) by omega), Below.refl _ _⟩
  case round =>
    obtain ⟨i, f, acc, hit, rfl, hacc, HO, HRD, HF, HB⟩ := hrel
    have hbs := HB.out.size
    by_cases hlt : i < t.size
    · obtain ⟨u, hu⟩ : ∃ u, t.extract i t.size = u := ⟨_, rfl⟩
      have hul : u.data.toList = T.drop i := by rw [← hu, drop_list, HT.out]
      have hus : u.size = t.size - i := by rw [← size_list, hul, List.length_drop, ← HT.out, HZ.out]
      have HTL := hid (show i < T.length by rw [← HT.out, HZ.out]; exact hlt)
      have CE : Hid (∀ X, Below w.heap.size w X → Calls Tryz.prog FE #[.string u, .pointer (some ⟨b, 0, none⟩)] X fun e w' => e = .returned (.tuple #[.string (mkS (E (T.drop i)).1), .int .i64 ((E (T.drop i)).2 : Nat)]) ∧ Below X.heap.size X w') := fun X hX => by
        have := HE.out u X hX (by have := HML.out; omega) (by omega)
        rw [hul] at this; exact this
      have CP : Hid (∀ X, Calls Tryz.prog FP #[.string u] X fun e w' => e = .returned (.tuple #[.string (mkS (P (T.drop i)).1), .int .i64 ((P (T.drop i)).2 : Nat)]) ∧ Below X.heap.size X w') := fun X => by
        have := HPP.out u X (by have := HML.out; omega) (by omega)
        rw [hul] at this; exact this
      have fe := HFE.out (T.drop i)
      have fp := HFP.out (T.drop i)
      have hdl : (T.drop i).length = t.size - i := by rw [← hul, size_list, hus]
      rw [hdl] at fe fp
      have HS := hid (fun he => rd_stop (E := E) (P := P) (t := T) (f := f) (i := i) (acc := acc) HF.out HTL.out he)
      have HWR := hid (fun he hp => rd_wrong (E := E) (P := P) (t := T) (f := f) (i := i) (acc := acc) HF.out HTL.out he hp)
      have HST := hid (fun he hp => rd_step (E := E) (P := P) (t := T) (f := f) (i := i) (acc := acc) HF.out HTL.out he hp)
      rw [HRD.out] at HS HWR HST
      clear hul hdl hus
      obtain ⟨e1, he1⟩ : ∃ x, (E (T.drop i)).1 = x := ⟨_, rfl⟩
      obtain ⟨e2, he2⟩ : ∃ x, (E (T.drop i)).2 = x := ⟨_, rfl⟩
      obtain ⟨p1, hp1⟩ : ∃ x, (P (T.drop i)).1 = x := ⟨_, rfl⟩
      obtain ⟨p2, hp2⟩ : ∃ x, (P (T.drop i)).2 = x := ⟨_, rfl⟩
      rw [he1, he2] at CE HS fe
      rw [he2] at HWR HST
      rw [hp1, hp2] at CP HST fp
      rw [hp2] at HWR
      clear he1 he2 hp1 hp2
      obtain ⟨fe1, fe2⟩ := fe
      obtain ⟨fp1, fp2⟩ := fp
      by_cases hend : 0 < e2
      · have HRR := hid (HS.out hend)
        obtain ⟨m, hm⟩ : ∃ m, mkS e1 = m := ⟨_, rfl⟩
        have hms : m.size = e1.length := by rw [← hm, mkS_size]
        have HM := hid hm
        rw [hm] at CE
        clear HS HWR HST CP hm
        go_wp2_with fail
        go_at_fn FE
        refine (CE.out _ HB.out).mono ?_
        rintro e w1 ⟨rfl, hb1⟩
        have HO1 := hid (ownsRow_below HO.out hb1)
        have hb01 := eonto HB.out hb1
        have hz1s := hb01.size
        go_wp2_with (at_builtin; go_must (refine Lib.wpList_append_own_string _ rfl _ _ 29 9 rfl w.heap.size 5 i1 Tryz.underlying29 Tryz.underlying9 hi hz0 hz1 hz2 _ acc.length (Lib.strCells (mkS acc)) rfl HO1.out m rfl (by unfold maxLen; omega) (by omega) hz1s ?_; intro v2 w2 hown2 hgr2 _; have hown3 := own_app HM.out hown2; have hcv := conv_own w2 w.heap.size v2 (acc ++ e1) hown3))
        have hb2 : Below w.heap.size w w2 := hb01.grown hgr2 hz1s (fun k hk => (HO1.out.lt k hk).1)
        refine bodyPost_ret (v := .tuple #[.string (mkS (acc ++ e1)), .int .i64 ((i : Int) + (e2 : Int)), .int .i64 (-1)]) (by simp [results, Tryz.results59, go_sem]) rfl ⟨ret_snn (by rw [HRR.out]) (by rw [HRR.out]; simp) (by rw [HRR.out]), hb2⟩
      · have he0 : e2 = 0 := by omega
        subst he0
        by_cases hpz : p2 = 0
        · subst hpz
          have HRR := hid (HWR.out rfl rfl)
          clear HS HWR HST
          go_wp2_with fail
          go_at_fn FE
          refine (CE.out _ HB.out).mono ?_
          rintro e w1 ⟨rfl, hb1⟩
          have hb01 := eonto HB.out hb1
          go_wp2_with fail
          go_at_fn FP
          refine (CP.out _).mono ?_
          rintro e w2 ⟨rfl, hb2⟩
          go_wp2_with fail
          refine bodyPost_ret (v := .tuple #[.string ⟨#[]⟩, .int .i64 0, .int .i64 (i : Int)]) (by simp [results, Tryz.results59, go_sem]) rfl ⟨ret_snn (by rw [HRR.out]; rfl) (by rw [HRR.out]; rfl) (by rw [HRR.out]), eonto hb01 hb2⟩
        · obtain ⟨f', HN1, HN2⟩ := HST.out rfl (by omega)
          have HN3 := hid HN1
          have HN4 := hid HN2
          have hp0 : ((p2 : Int) == 0) = false := by rw [beq_eq_false_iff_ne]; omega
          obtain ⟨m, hm⟩ : ∃ m, mkS p1 = m := ⟨_, rfl⟩
          have hms : m.size = p1.length := by rw [← hm, mkS_size]
          have HM := hid hm
          rw [hm] at CP
          clear HS HWR HST HN1 HN2 hm
          go_wp2_with fail
          go_at_fn FE
          refine (CE.out _ HB.out).mono ?_
          rintro e w1 ⟨rfl, hb1⟩
          have hb01 := eonto HB.out hb1
          go_wp2_with fail
          go_at_fn FP
          refine (CP.out _).mono ?_
          rintro e w3 ⟨rfl, hb3⟩
          have hb03 := eonto hb01 hb3
          have HO1 := hid (ownsRow_below (ownsRow_below HO.out hb1) hb3)
          have hz1s := hb03.size
          go_wp2_with (at_builtin; go_must (refine Lib.wpList_append_own_string _ rfl _ _ 29 9 rfl w.heap.size 5 i1 Tryz.underlying29 Tryz.underlying9 hi hz0 hz1 hz2 _ acc.length (Lib.strCells (mkS acc)) rfl HO1.out m rfl (by unfold maxLen; omega) (by omega) hz1s ?_; intro v2 w2 hown2 hgr2 _; have hown3 := own_app HM.out hown2))
          have hb2 : Below w.heap.size w w2 := hb03.grown hgr2 hz1s (fun k hk => (HO1.out.lt k hk).1)
          go_roundw
          case rel => exact ⟨i + p2, f', acc ++ p1, by omega, val_int (by omega), by rw [List.length_append]; omega, hown3, HN3.out.symm, HN4.out, hb2⟩
          case measure => simp [intOf]; omega
    · have hie : i = t.size := by omega
      have HRR := hid (show R = ([], 0, (T.length : Int)) by rw [← HRD.out]; exact rd_end HF.out (by rw [← HT.out, HZ.out]; omega) (by rw [← HT.out, HZ.out]; omega))
      have HTT := hid (show (T.length : Int) = (i : Int) by rw [← HT.out, HZ.out, hie])
      clear hie
      go_wp2_with fail
      refine bodyPost_ret (v := .tuple #[.string ⟨#[]⟩, .int .i64 0, .int .i64 (i : Int)]) (by simp [results, Tryz.results59, go_sem]) rfl ⟨ret_snn (by rw [HRR.out]; rfl) (by rw [HRR.out]; rfl) (by rw [HRR.out, HTT.out]), HB.out⟩
end Go.Proofs.YtoamndiblckdlaaGreatDoor
