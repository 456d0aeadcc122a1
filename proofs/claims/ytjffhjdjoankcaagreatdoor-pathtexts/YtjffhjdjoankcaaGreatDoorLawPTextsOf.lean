/- PathTexts, walked: any path of steps that may be is written and read back; any text is a path's, or none; paths are ordered, as the document says. -/
import Derived.Test.YtjffhjdjoankcaaGreatDoorLawPartsOf
import Derived.Test.YtjffhjdjoankcaaGreatDoorPathDoc
import Derived.Test.YtjffhjdjoankcaaGreatDoorRef5D
import Derived.Test.YtjffhjdjoankcaaGreatDoorRef5E
import Derived.Test.YtjffhjdjoankcaaGreatDoorMathParse
namespace Go.Proofs.YtjffhjdjoankcaaGreatDoor
open Go.RowKit

theorem parse_yes {l : List UInt8} {e : Ending} {w : World} {p : List PStep} (h : ParsePost l e w) (hn : parseP l = some p) : ∃ v, e = .returned (.tuple #[v, .int .i64 0]) ∧ InP w p v := by
  rcases h with ⟨v, q, h1, h2, h3⟩ | ⟨h1, -⟩
  · rw [hn] at h1; injection h1 with h1; subst h1; exact ⟨v, h2, h3⟩
  · rw [hn] at h1; cases h1
theorem parse_not {l : List UInt8} {e : Ending} {w : World} (h : ParsePost l e w) (hn : parseP l = none) : e = .returned (.tuple #[.slice none 0 0, .int .i64 4]) := by
  rcases h with ⟨v, p, h1, -⟩ | ⟨-, h2⟩
  · rw [hn] at h1; cases h1
  · exact h2
set_option maxRecDepth 100000 in
set_option maxHeartbeats 8000000 in
theorem ptexts_walk (P Q : List PStep) (vp vq : Value) (s : ByteArray) (hs : s.size ≤ maxLen) (w : World) (hg : Glob5 w) (hP : InP w P vp) (hQ : InP w Q vq) :
    Calls Tryz.prog 4 #[vp, vq, .string s] w fun e w' => e = .returned (.bool true) ∧ Below w.heap.size w w' := by
  have HG := hid hg
  have IP := hid hP
  have IQ := hid hQ
  obtain ⟨a1, ⟨oa, ca, rfl, -⟩, -⟩ := hP
  obtain ⟨b1, ⟨ob, cb, rfl, -⟩, -⟩ := hQ
  generalize P.length = la at IP
  generalize Q.length = lb at IQ
  unfold maxLen at hs
  clear hg
  go_enter Tryz.func4, Tryz.ntmps4
  go_wp2_with fail
  go_at_call 10
  refine (pawake_any _ HG.out).mono ?_
  rintro e w1 ⟨rfl, hb1⟩
  have H1 := hid hb1
  clear hb1
  go_wp2_with fail
  go_at_call 16
  refine (may_any P _ _ (IP.out.onto H1.out)).mono ?_
  rintro e w2 ⟨rfl, hb2⟩
  have H2 := hid (vonto H1.out hb2)
  clear hb2 H1
  cases hoP : pathOk P with
  | false => go_wp2_with fail; go_ret; exact ⟨rfl, H2.out⟩
  | true =>
  go_wp2_with fail
  go_at_call 16
  refine (may_any Q _ _ (IQ.out.onto H2.out)).mono ?_
  rintro e w3 ⟨rfl, hb3⟩
  have H3 := hid (vonto H2.out hb3)
  clear hb3 H2
  cases hoQ : pathOk Q with
  | false => go_wp2_with fail; go_ret; exact ⟨rfl, H3.out⟩
  | true =>
  by_cases h300 : 300 < s.size
  · go_wp2_with fail
    go_ret
    exact ⟨rfl, H3.out⟩
  have FP := hid (frm_all hoP)
  have FQ := hid (frm_all hoQ)
  have SP := hid (small_all hoP)
  have hlP : P.length ≤ 50 := by unfold pathOk at hoP; rw [Bool.and_eq_true, decide_eq_true_eq] at hoP; exact hoP.1
  have hlQ : Q.length ≤ 50 := by unfold pathOk at hoQ; rw [Bool.and_eq_true, decide_eq_true_eq] at hoQ; exact hoQ.1
  have htz : (mkS (textP P)).size ≤ 1000000 := by rw [← size_list, mkS_list]; have := ok_text hoP; omega
  have HTX : Hid ((mkS (textP P)).data.toList = textP P) := hid (mkS_list _)
  have HPT := hid (parse_text FP.out)
  clear hoP hoQ
  have CT := hid (fun (X : World) (hX : Below w.heap.size w X) => ptext_any P _ X (IP.out.onto hX) (HG.out.on hX) (by omega) SP.out)
  have C5 := hid (fun (v : Value) (X : World) (hI : InP X P v) => t5_any P v X hI FP.out SP.out (by omega))
  have CC := hid (fun (X : World) (hX : Below w.heap.size w X) => pcmp_any P Q _ _ X (IP.out.onto hX) (IQ.out.onto hX))
  have CD := hid (fun (u v : Value) (X : World) (hu : InP X P u) (hv : InP X Q v) => cmp5_any P Q u v X hu hv FP.out FQ.out)
  generalize mkS (textP P) = t at CT C5 htz HTX
  generalize cmpP P Q = c at CC CD
  go_wp2_with fail
  go_at_call 17
  refine (steps_any P _ _ (IP.out.onto H3.out) (by omega)).mono ?_
  rintro e w4 ⟨va, rfl, hIa, hb4⟩
  have H4 := hid (vonto H3.out hb4)
  have JA := hid hIa
  clear hb4 hIa H3
  go_wp2_with fail
  go_at_call 17
  refine (steps_any Q _ _ (IQ.out.onto H4.out) (by omega)).mono ?_
  rintro e w5 ⟨vb, rfl, hIb, hb5⟩
  have H5 := hid (vonto H4.out hb5)
  have JA5 := hid (JA.out.onto hb5)
  have JB := hid hIb
  clear hb5 hIb H4 JA
  go_wp2_with fail
  go_at_call 18
  refine (CT.out _ H5.out).mono ?_
  rintro e w6 ⟨rfl, hb6⟩
  have H6 := hid (vonto H5.out hb6)
  have JA6 := hid (JA5.out.onto hb6)
  have JB6 := hid (JB.out.onto hb6)
  clear hb6 H5 JA5 JB CT
  go_wp2_with fail
  go_at_call 11
  refine (parse_any t _ (HG.out.on H6.out) htz).mono ?_
  rintro e w7 ⟨hpp, hb7⟩
  obtain ⟨vk, rfl, hIk⟩ := parse_yes hpp (by rw [HTX.out]; exact HPT.out)
  have H7 := hid (vonto H6.out hb7)
  have JA7 := hid (JA6.out.onto hb7)
  have JB7 := hid (JB6.out.onto hb7)
  have JK7 := hid hIk
  clear hpp hIk hb7 H6 JA6 JB6
  go_wp2_with fail
  go_at_call 11
  refine (parse_any s _ (HG.out.on H7.out) (by omega)).mono ?_
  rintro e w8 ⟨hpp, hb8⟩
  have HPP := hid hpp
  have H8 := hid (vonto H7.out hb8)
  have JA8 := hid (JA7.out.onto hb8)
  have JB8 := hid (JB7.out.onto hb8)
  have JK8 := hid (JK7.out.onto hb8)
  clear hpp hb8 H7 JA7 JB7 JK7
  cases hps : parseP s.data.toList with
  | some L =>
    obtain ⟨vx, rfl, hIx⟩ := parse_yes HPP.out hps
    have JX := hid hIx
    obtain ⟨hts, hfl⟩ := parse_sound hps
    have HTS := hid hts
    have HFL := hid hfl
    clear hIx HPP hts hfl hps
    go_wp2_with fail
    go_at_call 19
    refine (parse5_any s _ (by omega)).mono ?_
    rintro e w9 ⟨⟨vy, ok, rfl, hok⟩, hb9⟩
    cases ok with
    | false => exact absurd HTS.out (hok L HFL.out)
    | true =>
    obtain ⟨L2, hI2, ht2, hf2⟩ := hok
    obtain rfl : L2 = L := text_inj hf2 HFL.out (ht2.trans HTS.out.symm)
    have JY := hid hI2
    have H9 := hid (vonto H8.out hb9)
    have JA9 := hid (JA8.out.onto hb9)
    have JB9 := hid (JB8.out.onto hb9)
    have JK9 := hid (JK8.out.onto hb9)
    have JX9 := hid (JX.out.onto hb9)
    clear hI2 ht2 hf2 hb9 H8 JA8 JB8 JK8 JX
    go_wp2_with fail
    go_at_call 20
    refine (C5.out _ _ JA9.out).mono ?_
    rintro e w10 ⟨rfl, hb10⟩
    go_wp2_with fail
    go_at_call 21
    refine (psame_any P P _ _ _ (JK9.out.onto hb10) (JA9.out.onto hb10) true ⟨fun _ => rfl, fun _ => rfl⟩).mono ?_
    rintro e w11 ⟨rfl, hb11⟩
    have hbx := vonto hb10 hb11
    go_wp2_with fail
    go_at_call 21
    refine (psame_any L2 L2 _ _ _ (JX9.out.onto hbx) (JY.out.onto hbx) true ⟨fun _ => rfl, fun _ => rfl⟩).mono ?_
    rintro e w12 ⟨rfl, hb12⟩
    have hby := vonto hbx hb12
    go_wp2_with fail
    go_at_call 22
    refine (CC.out _ (vonto H9.out hby)).mono ?_
    rintro e w13 ⟨rfl, hb13⟩
    have hbz := vonto hby hb13
    go_wp2_with fail
    go_at_call 23
    refine (CD.out _ _ _ (JA9.out.onto hbz) (JB9.out.onto hbz)).mono ?_
    rintro e w14 ⟨rfl, hb14⟩
    go_wp2_with fail
    go_ret
    exact ⟨rfl, vonto H9.out (vonto hbz hb14)⟩
  | none =>
    obtain rfl := parse_not HPP.out hps
    have HNO := hid hps
    clear HPP hps
    go_wp2_with fail
    go_at_call 19
    refine (parse5_any s _ (by omega)).mono ?_
    rintro e w9 ⟨⟨vy, ok, rfl, hok⟩, hb9⟩
    cases ok with
    | true =>
      obtain ⟨L2, -, ht2, hf2⟩ := hok
      have := parse_text hf2
      rw [ht2, HNO.out] at this; cases this
    | false =>
    have H9 := hid (vonto H8.out hb9)
    have JA9 := hid (JA8.out.onto hb9)
    have JB9 := hid (JB8.out.onto hb9)
    have JK9 := hid (JK8.out.onto hb9)
    clear hok hb9 H8 JA8 JB8 JK8
    go_wp2_with fail
    go_at_call 20
    refine (C5.out _ _ JA9.out).mono ?_
    rintro e w10 ⟨rfl, hb10⟩
    go_wp2_with fail
    go_at_call 21
    refine (psame_any P P _ _ _ (JK9.out.onto hb10) (JA9.out.onto hb10) true ⟨fun _ => rfl, fun _ => rfl⟩).mono ?_
    rintro e w11 ⟨rfl, hb11⟩
    have hbx := vonto hb10 hb11
    go_wp2_with fail
    go_at_call 22
    refine (CC.out _ (vonto H9.out hbx)).mono ?_
    rintro e w13 ⟨rfl, hb13⟩
    have hbz := vonto hbx hb13
    go_wp2_with fail
    go_at_call 23
    refine (CD.out _ _ _ (JA9.out.onto hbz) (JB9.out.onto hbz)).mono ?_
    rintro e w14 ⟨rfl, hb14⟩
    go_wp2_with fail
    go_ret
    exact ⟨rfl, vonto H9.out (vonto hbz hb14)⟩
end Go.Proofs.YtjffhjdjoankcaaGreatDoor
