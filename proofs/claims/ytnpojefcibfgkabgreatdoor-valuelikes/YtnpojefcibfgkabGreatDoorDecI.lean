/- Package dec, walked: Int alone; the library's two errors that it reads. -/
import Derived.Test.YtnpojefcibfgkabGreatDoorDecE
import Derived.Test.YtnpojefcibfgkabGreatDoorMathDecAll
import Derived.Lib.AtoiErrMem
namespace Go.Proofs.YtnpojefcibfgkabGreatDoor
open Go.RowKit

/-- the library's variables that are read lie as its text lays them -/
structure Glob (w : World) : Prop where
  syn : ∃ tp p, w.var? Tryz.prog "strconv.ErrSyntax" = some #[.iface tp p]
  ran : ∃ tp p, w.var? Tryz.prog "strconv.ErrRange" = some #[.iface tp p]
theorem var_on {w w' : World} {n : String} {cs : Array Value} (hb : Below w.heap.size w w') (h : w.var? Tryz.prog n = some cs) : w'.var? Tryz.prog n = some cs := by
  unfold World.var? at *
  cases hg : Tryz.prog.globalNamed n with
  | none => simp [hg] at h
  | some g =>
    simp only [hg, Option.bind_some] at h ⊢
    have hlt : g < w.heap.size := by
      rcases Nat.lt_or_ge g w.heap.size with h' | h'
      · exact h'
      · rw [Array.getElem?_eq_none h'] at h; simp at h
    rw [hb.block g hlt]
    exact h
theorem Glob.on {w w' : World} (h : Glob w) (hb : Below w.heap.size w w') : Glob w' :=
  ⟨let ⟨a, b, e⟩ := h.syn; ⟨a, b, var_on hb e⟩, let ⟨a, b, e⟩ := h.ran; ⟨a, b, var_on hb e⟩⟩
theorem ret_str {a b : ByteArray} (h : a = b) : Ending.returned (.string a) = .returned (.string b) := by rw [h]
theorem str_eq (s : ByteArray) (l : List UInt8) (hl : s.data.toList = l) (k : List UInt8) : (s.toList == k) = decide (l = k) := by
  rw [Lib.toList_data, hl]
  by_cases h : l = k
  · rw [h]; simp
  · rw [decide_eq_false h]; exact beq_eq_false_iff_ne.2 h
/-- strconv.ParseInt as dec.Int meets it -/
theorem pint_any (s : ByteArray) (w : World) (hg : Glob w) (hs : s.size ≤ 400) :
    Calls Tryz.prog 41 #[.string s, .int .i64 10, .int .i64 64] w fun e w' => Below w.heap.size w w' ∧
      ((∃ v, Hid (Lib.parseIntB 64 s.data.toList = .ok v) ∧ e = .returned (.tuple #[.int .i64 v, .nilIface])) ∨ (Hid (∀ v, ¬ Lib.parseIntB 64 s.data.toList = .ok v) ∧ ∃ v t p, e = .returned (.tuple #[.int .i64 v, .iface t p]))) := by
  generalize hq : Lib.parseIntB 64 s.data.toList = q
  have h := hq
  clear hq
  rcases q with v | _ | _
  · refine (Tryz.strconv_ParseInt_10_at64_ok s (by omega) v h w).mono ?_
    rintro e w' ⟨rfl, rfl | ⟨t, rfl⟩⟩
    · exact ⟨Below.refl _ _, Or.inl ⟨v, hid rfl, rfl⟩⟩
    · exact ⟨Lib.bytesWorld_below _ _ _, Or.inl ⟨v, hid rfl, rfl⟩⟩
  · obtain ⟨tp, p, hv⟩ := hg.syn
    refine (Any.strconv_ParseInt_10_at64_syntax_var Tryz.laysC174 s (by omega) h tp p w hv).mono ?_
    rintro e w' ⟨N, rfl, -, -, hb⟩
    exact ⟨hb, Or.inr ⟨(show ∀ v, ¬ _ = _ from fun v => by intro e; cases e), _, _, _, rfl⟩⟩
  · obtain ⟨tp, p, hv⟩ := hg.ran
    refine (Tryz.strconv_ParseInt_10_at64_range_var s (by omega) h tp p w hv).mono ?_
    rintro e w' ⟨N, rfl, -, -, hb⟩
    exact ⟨hb, Or.inr ⟨(show ∀ v, ¬ _ = _ from fun v => by intro e; cases e), _, _, _, rfl⟩⟩
set_option maxRecDepth 100000 in
set_option maxHeartbeats 400000 in
theorem dint_max (s : ByteArray) (w : World) (hg : Glob w) (hs : s.size ≤ maxLen) :
    Calls Tryz.prog 27 #[.string s] w fun e w' => e = .returned (.tuple #[.int .i64 (intV s.data.toList), .bool (intB s.data.toList)]) ∧ Below w.heap.size w w' := by
  have dg := hid (fun w => dgood_max s w hs)
  have pi := hid (fun w (hg : Glob w) (h : s.size ≤ 400) => pint_any s w hg h)
  have HG := hid hg
  have HZ := hid (size_list s)
  have HE := hid (str_eq s s.data.toList rfl [45, 48])
  generalize s.data.toList = l at dg pi HZ HE ⊢
  clear hg
  cases hn : numB l with
  | false =>
    have H := hid (show intB l = false by unfold intB; rw [hn]; rfl)
    go_enter Tryz.func27, Tryz.ntmps27
    go_wp2_with (go_at_call 26; go_must (refine (dg.out _).mono ?_; rintro e w1 ⟨rfl, hb⟩; rw [hn]))
    go_ret2
    exact ⟨ret_ib (by unfold intV; rw [H.out]; rfl) H.out.symm, hb⟩
  | true =>
    have h4 : s.size ≤ 400 := by
      rw [← HZ.out]; unfold numB at hn; simp only [Bool.and_eq_true, decide_eq_true_eq] at hn; exact hn.2
    by_cases h0 : l = [45, 48]
    · have g : (s.toList == [45, 48]) = true := by rw [HE.out, decide_eq_true h0]
      have H := hid (show intB l = false by unfold intB; rw [decide_eq_true h0]; simp)
      clear h0
      go_enter Tryz.func27, Tryz.ntmps27
      go_wp2_with (go_at_call 26; go_must (refine (dg.out _).mono ?_; rintro e w1 ⟨rfl, hb⟩; rw [hn]))
      go_ret2
      exact ⟨ret_ib (by unfold intV; rw [H.out]; rfl) H.out.symm, hb⟩
    · have g : (s.toList == [45, 48]) = false := by rw [HE.out, decide_eq_false h0]
      have H := hid (int_par l hn h0)
      clear h0
      go_enter Tryz.func27, Tryz.ntmps27
      go_wp2_with (first
        | (go_at_call 26; go_must (refine (dg.out _).mono ?_; rintro e w1 ⟨rfl, hb⟩; rw [hn]))
        | (go_at_call 41; go_must (refine (pi.out _ (HG.out.on hb) h4).mono ?_; rintro e w2 ⟨hb2, ⟨v, HV, rfl⟩ | ⟨HV, v, t, p, rfl⟩⟩)))
      · go_ret2
        have hI : intB l = true := by
          cases hi : intB l with
          | true => rfl
          | false => exact absurd HV.out (H.out.2 hi v)
        have e := (H.out.1 hI).symm.trans HV.out
        exact ⟨ret_ib (by cases e; rfl) hI.symm, onto hb hb2⟩
      · go_ret2
        have hI : intB l = false := by
          cases hi : intB l with
          | false => rfl
          | true => exact absurd (H.out.1 hi) (HV.out _)
        exact ⟨ret_ib (by unfold intV; rw [hI]; rfl) hI.symm, onto hb hb2⟩
end Go.Proofs.YtnpojefcibfgkabGreatDoor
